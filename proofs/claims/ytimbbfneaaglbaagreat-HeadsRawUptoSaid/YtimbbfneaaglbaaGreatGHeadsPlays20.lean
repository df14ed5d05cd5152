/-
  The walks of the landed package source. By an AI agent.
-/
import Derived.Test.YtimbbfneaaglbaaGreatGHeadsPlays7
import Derived.Test.YtimbbfneaaglbaaGreatGHeadsPlays19
import Derived.Test.YtimbbfneaaglbaaGreatGHeadsPlays12
import Derived.Deep.RegionHeld3
import Derived.Lib.MinMax
import Derived.IntWalk
namespace Go.Proofs.YtimbbfneaaglbaaGreat.Src
open Go.RowKit Go.Proofs.YtimbbfneaaglbaaGreat.Ints Go.Proofs.YtimbbfneaaglbaaGreat.Mem

/-- A landed source in the block g: the bytes that can be read, how many there are, the script, how many Reads told bytes; what the slices read as lies in blocks of S. -/
structure LSrc (S : Nat → Prop) (w : World) (g : Nat) (bs sc : List Int) (f N : Nat) : Prop where
  ex : ∃ A c B d, Blk w g [.slice A f c, .int .i64 (bs.length : Nat), .slice B sc.length d, .int .i64 (N : Nat)] ∧ Rd .u8 w A f (bs.take f) ∧ f ≤ c ∧ c ≤ maxLen ∧ Rd .i64 w B sc.length sc ∧ sc.length ≤ maxLen ∧
    (∀ a, A = some a → 0 < f → S a.block) ∧ (∀ a, B = some a → 0 < sc.length → S a.block)
  ne : ¬ S g
  le : f ≤ bs.length
theorem LSrc.lt {S : Nat → Prop} {w : World} {g : Nat} {bs sc : List Int} {f N : Nat} (h : LSrc S w g bs sc f N) : g < w.heap.size := by
  obtain ⟨A, c, B, d, h1, -⟩ := h.ex
  exact h1.1
theorem LSrc.kept {S : Nat → Prop} {w w' : World} {g : Nat} {bs sc : List Int} {f N : Nat} {row : Option Nat} (h : LSrc S w g bs sc f N) (hg : w.grownBy w' row) (hne : some g ≠ row) (hS : ∀ b, S b → some b ≠ row) : LSrc S w' g bs sc f N := by
  obtain ⟨A, c, B, d, h1, h2, h3, h4, h5, h6, h7, h8⟩ := h.ex
  exact ⟨⟨A, c, B, d, h1.grown hg hne, rd_grown h2 hg (fun a e h0 => hS _ (h7 a e h0)), h3, h4, rd_grown h5 hg (fun a e h0 => hS _ (h8 a e h0)), h6, h7, h8⟩, h.ne, h.le⟩
theorem LSrc.below {S : Nat → Prop} {w w' : World} {g : Nat} {bs sc : List Int} {f N : Nat} (h : LSrc S w g bs sc f N) (hb : Below w.heap.size w w') : LSrc S w' g bs sc f N := by
  obtain ⟨A, c, B, d, h1, h2, h3, h4, h5, h6, h7, h8⟩ := h.ex
  exact ⟨⟨A, c, B, d, h1.later hb, h2.below hb, h3, h4, h5.below hb, h6, h7, h8⟩, h.ne, h.le⟩
theorem LSrc.mono {S S' : Nat → Prop} {w : World} {g : Nat} {bs sc : List Int} {f N : Nat} (h : LSrc S w g bs sc f N) (hs : ∀ b, S b → S' b) (hg : ¬ S' g) : LSrc S' w g bs sc f N := by
  obtain ⟨A, c, B, d, h1, h2, h3, h4, h5, h6, h7, h8⟩ := h.ex
  exact ⟨⟨A, c, B, d, h1, h2, h3, h4, h5, h6, fun a e h0 => hs _ (h7 a e h0), fun a e h0 => hs _ (h8 a e h0)⟩, hg, h.le⟩
/-- One Read more. -/
theorem LSrc.step {S : Nat → Prop} {w : World} {g : Nat} {bs sc : List Int} {f N : Nat} (h : LSrc S w g bs sc f N) : LSrc S (w.setCell ⟨g, 3, none⟩ (.int .i64 ((N : Int) + 1))) g bs sc f (N + 1) := by
  obtain ⟨A, c, B, d, h1, h2, h3, h4, h5, h6, h7, h8⟩ := h.ex
  have hgr := grown_cell w ⟨g, 3, none⟩ (.int .i64 ((N : Int) + 1))
  have off : ∀ a : Addr, S a.block → some a.block ≠ some g := fun a ha e => by
    injection e with e
    rw [e] at ha
    exact h.ne ha
  have hst := h1.set 3 (.int .i64 ((N : Int) + 1)) (by simp)
  refine ⟨⟨A, c, B, d, ?_, rd_grown h2 hgr (fun a e h0 => off a (h7 a e h0)), h3, h4, rd_grown h5 hgr (fun a e h0 => off a (h8 a e h0)), h6, h7, h8⟩, h.ne, h.le⟩
  have e : ((N + 1 : Nat) : Int) = (N : Int) + 1 := by omega
  rw [e]
  simpa using hst

theorem infoB : (Tryz.prog.info? 5).map (fun i => (i.zero, i.size, i.bytes)) = some (some (.int .u8 0), 1, 1) := by kernel_rfl
theorem infoI : (Tryz.prog.info? 3).map (fun i => (i.zero, i.size, i.bytes)) = some (some (.int .i64 0), 1, 8) := by kernel_rfl
theorem row_moreB {w : World} {base n m : Nat} {e : TypeId} {v : Value} {xs ys : List Int} {k : IntKind} (hn : n = m) (hx : xs = ys) (h : w.ownsRow base e 1 v n (xs.map (Value.int k))) : w.ownsRow base e 1 v m (ys.map (Value.int k)) := by
  subst hn; subst hx; exact h
theorem grown_none {w w' : World} (h : w.grownBy w' none) (row : Option Nat) : w.grownBy w' row := ⟨h.os, h.tape, h.output, h.size, fun b hb _ => h.block b hb (by simp)⟩

/-! ### clones -/
theorem cloneB (A : Option Addr) (n c : Nat) (zs : List Int) (w : World) (h : Rd .u8 w A n zs) (hn : n ≤ 140737488365568) :
    Calls Tryz.prog 57 #[.slice A n c] w fun e w' => ∃ v, e = .returned v ∧ w'.ownsRow w.heap.size 5 1 v n (zs.map (Value.int .u8)) ∧ Below w.heap.size w w' := by
  obtain ⟨i0, hi, hz0, hz1, hz2⟩ := info_parts infoB
  have q1 : 0 + n ≤ maxLen := by unfold maxLen; omega
  have q2 : ((0 + n) + (0 + n) / 4 + 192) * 1 ≤ 281474976710656 := by omega
  have q3 : w.heap.size ≤ (w.alloc (.cells #[] 5)).heap.size := by simp
  have hnil := fun (W : World) (B : Option Addr) => Lib.run_eql_slice_nil (P := Tryz.prog) W 28 5 B n c 0 0 Tryz.underlying28
  cases A with
  | none =>
    have hn0 : n = 0 := by
      rcases Nat.eq_zero_or_pos n with h' | h'
      · exact h'
      · obtain ⟨b, off, e, -⟩ := h.cell h'
        cases e
    subst hn0
    have : zs = [] := List.eq_nil_of_length_eq_zero h.len
    subst this
    refine (Tryz.bytes_Clone_nil 0 c w).mono ?_
    rintro e w' ⟨rfl, rfl⟩
    exact ⟨_, rfl, World.ownsRow_nil _ _ _ _, Below.refl _ _⟩
  | some a =>
    have H := Lib.hid (h.alloc (.cells #[] 5))
    clear h
    go_enter Tryz.func57, Tryz.ntmps57
    go_wp2_with (at_builtin; refine wpList_append_ints_wide rfl _ _ 28 rfl .u8 w.heap.size 5 i0 1 Tryz.underlying28 hi hz0 hz1 hz2 (.slice (some ⟨w.heap.size, 0, none⟩) 0 0) 0 [] rfl (World.ownsRow_made w #[] 0 (Nat.le_refl _) (by decide) rfl) _ _ _ zs rfl H.out q1 q2 q3 ?_; intro v' w1 hown hgr; simp only [Nat.zero_add, List.nil_append] at hown)
    go_ret
    exact ⟨_, rfl, hown, ((Below.refl _ _).alloc (Nat.le_refl _) _).grown hgr (by simp) (by rintro k hk; simp [Value.ownBlock] at hk; omega)⟩
theorem cloneI (A : Option Addr) (n c : Nat) (zs : List Int) (w : World) (h : Rd .i64 w A n zs) (hn : n * 8 ≤ 140737488355328) :
    Calls Tryz.prog 58 #[.slice A n c] w fun e w' => ∃ v, e = .returned v ∧ w'.ownsRow w.heap.size 3 1 v n (zs.map (Value.int .i64)) ∧ Below w.heap.size w w' := by
  cases A with
  | none =>
    have hn0 : n = 0 := by
      rcases Nat.eq_zero_or_pos n with h' | h'
      · exact h'
      · obtain ⟨b, off, e, -⟩ := h.cell h'
        cases e
    subst hn0
    have : zs = [] := List.eq_nil_of_length_eq_zero h.len
    subst this
    refine (Tryz.slices_Clone_int_nil 0 c w).mono ?_
    rintro e w' ⟨rfl, rfl⟩
    exact ⟨_, rfl, World.ownsRow_nil _ _ _ _, Below.refl _ _⟩
  | some ad =>
    rcases Nat.eq_zero_or_pos n with hn0 | hp
    · subst hn0
      have : zs = [] := List.eq_nil_of_length_eq_zero h.len
      subst this
      refine (Tryz.slices_Clone_int_zero ad c w).mono ?_
      rintro e w' ⟨v', rfl, h1, -, h2⟩
      exact ⟨v', rfl, h1, h2⟩
    · obtain ⟨b, off, e, hc⟩ := h.cell hp
      injection e with e
      subst e
      refine (Tryz.slices_Clone_int b off n c zs w (by rw [h.len]; exact Nat.le_refl _) (by omega) (fun j hj => by have := hc j (by rw [← h.len]; exact hj); simpa [List.getD] using this)).mono ?_
      rintro e w' ⟨v', rfl, h1, -, h2⟩
      rw [List.take_of_length_le (by rw [h.len]; exact Nat.le_refl _)] at h1
      exact ⟨v', rfl, h1, h2⟩

/-! ### the script's next number -/
/-- How many bytes the script lets the next Read tell. -/
def letsL (sc : List Int) (N : Nat) : Int := if N < sc.length then max (sc[N]?.getD 0) 1 else 9223372036854775807
theorem lets_lim {sc : List Int} {N : Nat} {m : Int} (hm : m ≤ 9223372036854775807) : min m (letsL sc N) = limI sc N m := by
  unfold letsL limI
  split
  · rw [Int.max_comm]
  · omega

set_option maxHeartbeats 4000000 in
set_option maxRecDepth 100000 in
theorem landLimit (S : Nat → Prop) (g : Nat) (bs sc : List Int) (f N : Nat) (w : World) (h : LSrc S w g bs sc f N) (hN : N < 9223372036854775807) :
    Calls Tryz.prog 104 #[.pointer (some ⟨g, 0, none⟩)] w fun e w' => e = .returned (.int .i64 (letsL sc N)) ∧ Below w.heap.size w w' := by
  have q63 : maxLen = 9223372036854775807 := rfl
  obtain ⟨A, c, B, d, hb, -, -, -, hsc, hscm, -⟩ := h.ex
  have HB := Lib.hid hb
  have HSC := Lib.hid hsc
  have x2 := hb.cell 2 rfl
  have x3 := hb.cell 3 rfl
  obtain ⟨m, hm⟩ : ∃ m, sc.length = m := ⟨_, rfl⟩
  have HM := Lib.hid hm
  rw [hm] at x2 hscm
  clear hb hsc h hm
  by_cases hNm : N < m
  · obtain ⟨bB, oB, hBe, hcell⟩ := HSC.out.cell (by rw [HM.out]; omega)
    have xz := hcell N (by rw [HM.out]; exact hNm)
    obtain ⟨z, hz⟩ : ∃ z, sc[N]?.getD 0 = z := ⟨_, rfl⟩
    rw [hz] at xz
    have HL := Lib.hid (show letsL sc N = max z 1 by unfold letsL; rw [if_pos (by rw [HM.out]; exact hNm), hz])
    have hNm' : ¬ m ≤ N := by omega
    subst hBe
    clear hcell hz
    go_enter Tryz.func104, Tryz.ntmps104
    go_wp2_with fail
    obtain ⟨V, hV⟩ : ∃ V, V = w.drew := ⟨_, rfl⟩
    have HBV := Lib.hid (show Below w.heap.size w V by rw [hV]; exact (Below.refl _ _).drew)
    have v2 := below_cell HBV.out x2
    have v3 := below_cell HBV.out x3
    have vz := below_cell HBV.out xz
    clear x2 x3 xz
    refine wp_region_held_drew (S := fun W => W.cell? ⟨g, 2, none⟩ = some (.slice (some ⟨bB, oB, none⟩) m d) ∧ W.cell? ⟨g, 3, none⟩ = some (.int .i64 (N : Nat))) (by kernel_rfl) (by rw [← hV]; exact ⟨v2, v3⟩) (fun hHeld => ?_)
    rw [← hV] at hHeld ⊢
    clear hV
    refine wpAnyH_take (i := 0) (oi := ?tko1) (v := ?tkv1) ?tkh1 (by kernel_rfl) (by kernel_rfl) (by kernel_rfl) ?tkq1 ?tky1 hHeld ?tkr1
    case tkh1 => (simp only [List.getElem?_toArray, List.getElem?_cons_zero]; rfl)
    case tkq1 => exact fun _ _ _ h => h
    case tky1 => exact Or.inl ⟨by rfl, by intro wSw hSw; (try dsimp only at hSw); go_simp; try with_reducible rfl⟩
    try simp only [Act.put, List.setIfInBounds_toArray, List.set_cons_zero, List.set_cons_succ]
    refine wpAnyH_take (i := 1) (oi := ?tko2) (v := ?tkv2) ?tkh2 (by kernel_rfl) (by kernel_rfl) (by kernel_rfl) ?tkq2 ?tky2 hHeld ?tkr2
    case tkh2 => (simp only [List.getElem?_toArray, List.getElem?_cons_succ, List.getElem?_cons_zero]; rfl)
    case tkq2 => exact fun _ _ _ h => h
    case tky2 => exact Or.inl ⟨by rfl, by intro wSw hSw; (try dsimp only at hSw); go_simp; try with_reducible rfl⟩
    try simp only [Act.put, List.setIfInBounds_toArray, List.set_cons_zero, List.set_cons_succ]
    refine wpAnyH_take (i := 2) (oi := ?tko3) (v := ?tkv3) ?tkh3 (by kernel_rfl) (by kernel_rfl) (by kernel_rfl) ?tkq3 ?tky3 hHeld ?tkr3
    case tkh3 => (simp only [List.getElem?_toArray, List.getElem?_cons_succ, List.getElem?_cons_zero]; rfl)
    case tkq3 => exact fun _ _ _ h => h
    case tky3 => exact Or.inl ⟨by rfl, by intro wSw hSw; (try dsimp only at hSw); go_simp; try with_reducible rfl⟩
    try simp only [Act.put, List.setIfInBounds_toArray, List.set_cons_zero, List.set_cons_succ]
    refine wpAnyH_take (i := 3) (oi := ?tko4) (v := ?tkv4) ?tkh4 (by kernel_rfl) (by kernel_rfl) (by kernel_rfl) ?tkq4 ?tky4 hHeld ?tkr4
    case tkh4 => (simp only [List.getElem?_toArray, List.getElem?_cons_succ, List.getElem?_cons_zero]; rfl)
    case tkq4 => exact fun _ _ _ h => h
    case tky4 => exact Or.inl ⟨by rfl, by intro wSw hSw; (try dsimp only at hSw); go_simp; try with_reducible rfl⟩
    try simp only [Act.put, List.setIfInBounds_toArray, List.set_cons_zero, List.set_cons_succ]
    refine wpAnyH_take (i := 4) (oi := ?tko5) (v := ?tkv5) ?tkh5 (by kernel_rfl) (by kernel_rfl) (by kernel_rfl) ?tkq5 ?tky5 hHeld ?tkr5
    case tkh5 => (simp only [List.getElem?_toArray, List.getElem?_cons_succ, List.getElem?_cons_zero]; rfl)
    case tkq5 => exact fun _ _ _ h => h
    case tky5 => exact Or.inl ⟨by rfl, by intro wSw hSw; (try dsimp only at hSw); go_simp; try with_reducible rfl⟩
    try simp only [Act.put, List.setIfInBounds_toArray, List.set_cons_zero, List.set_cons_succ]
    refine wpAnyH_take (i := 5) (oi := ?tko6) (v := ?tkv6) ?tkh6 (by kernel_rfl) (by kernel_rfl) (by kernel_rfl) ?tkq6 ?tky6 hHeld ?tkr6
    case tkh6 => (simp only [List.getElem?_toArray, List.getElem?_cons_succ, List.getElem?_cons_zero]; rfl)
    case tkq6 => exact fun _ _ _ h => h
    case tky6 => exact Or.inl ⟨by rfl, by intro wSw hSw; (try dsimp only at hSw); go_simp; try with_reducible rfl⟩
    try simp only [Act.put, List.setIfInBounds_toArray, List.set_cons_zero, List.set_cons_succ]
    refine wpAnyH_take (i := 6) (oi := ?tko7) (v := ?tkv7) ?tkh7 (by kernel_rfl) (by kernel_rfl) (by kernel_rfl) ?tkq7 ?tky7 hHeld ?tkr7
    case tkh7 => (simp only [List.getElem?_toArray, List.getElem?_cons_succ, List.getElem?_cons_zero]; rfl)
    case tkq7 => exact fun _ _ _ h => h
    case tky7 => exact Or.inl ⟨by rfl, by intro wSw hSw; (try dsimp only at hSw); go_simp; try with_reducible rfl⟩
    try simp only [Act.put, List.setIfInBounds_toArray, List.set_cons_zero, List.set_cons_succ]
    refine wpAnyH_take (i := 7) (oi := ?tko8) (v := ?tkv8) ?tkh8 (by kernel_rfl) (by kernel_rfl) (by kernel_rfl) ?tkq8 ?tky8 hHeld ?tkr8
    case tkh8 => (simp only [List.getElem?_toArray, List.getElem?_cons_succ, List.getElem?_cons_zero]; rfl)
    case tkq8 => exact fun _ _ _ h => h
    case tky8 => exact Or.inl ⟨by rfl, by intro wSw hSw; (try dsimp only at hSw); go_simp; try with_reducible rfl⟩
    try simp only [Act.put, List.setIfInBounds_toArray, List.set_cons_zero, List.set_cons_succ]
    refine wpAnyH_take (i := 8) (oi := ?tko9) (v := ?tkv9) ?tkh9 (by kernel_rfl) (by kernel_rfl) (by kernel_rfl) ?tkq9 ?tky9 hHeld ?tkr9
    case tkh9 => (simp only [List.getElem?_toArray, List.getElem?_cons_succ, List.getElem?_cons_zero]; rfl)
    case tkq9 => exact fun _ _ _ h => h
    case tky9 => exact Or.inl ⟨by rfl, by intro wSw hSw; (try dsimp only at hSw); go_simp; try with_reducible rfl⟩
    try simp only [Act.put, List.setIfInBounds_toArray, List.set_cons_zero, List.set_cons_succ]
    refine wpAnyH_take (i := 9) (oi := ?tko10) (v := ?tkv10) ?tkh10 (by kernel_rfl) (by kernel_rfl) (by kernel_rfl) ?tkq10 ?tky10 hHeld ?tkr10
    case tkh10 => (simp only [List.getElem?_toArray, List.getElem?_cons_succ, List.getElem?_cons_zero]; rfl)
    case tkq10 => exact fun _ _ _ h => h
    case tky10 => exact Or.inl ⟨by rfl, by intro wSw hSw; (try dsimp only at hSw); go_simp; try with_reducible rfl⟩
    try simp only [Act.put, List.setIfInBounds_toArray, List.set_cons_zero, List.set_cons_succ]
    refine wpAnyH_done (by kernel_rfl) ?_ _
    clear hHeld
    go_wp2_with fail
    obtain ⟨U, hU⟩ : ∃ U, U = V.drew := ⟨_, rfl⟩
    have HBU := Lib.hid (show Below w.heap.size w U by rw [hU]; exact HBV.out.drew)
    have y2 : U.cell? ⟨g, 2, none⟩ = some (.slice (some ⟨bB, oB, none⟩) m d) := by rw [hU]; exact v2
    have y3 : U.cell? ⟨g, 3, none⟩ = some (.int .i64 (N : Nat)) := by rw [hU]; exact v3
    have yz : U.cell? ⟨bB, oB + N, none⟩ = some (.int .i64 z) := by rw [hU]; exact vz
    clear v2 v3 vz
    refine wp_region_held_drew (S := fun W => W.cell? ⟨g, 2, none⟩ = some (.slice (some ⟨bB, oB, none⟩) m d) ∧ W.cell? ⟨g, 3, none⟩ = some (.int .i64 (N : Nat)) ∧ W.cell? ⟨bB, oB + N, none⟩ = some (.int .i64 z)) (by kernel_rfl) (by rw [← hU]; exact ⟨y2, y3, yz⟩) (fun hHeld => ?_)
    rw [← hU] at hHeld ⊢
    clear hU
    refine wpAnyH_take (i := 0) (oi := ?tko11) (v := ?tkv11) ?tkh11 (by kernel_rfl) (by kernel_rfl) (by kernel_rfl) ?tkq11 ?tky11 hHeld ?tkr11
    case tkh11 => (simp only [List.getElem?_toArray, List.getElem?_cons_zero]; rfl)
    case tkq11 => exact fun _ _ _ h => h
    case tky11 => exact Or.inl ⟨by rfl, by intro wSw hSw; (try dsimp only at hSw); go_simp; try with_reducible rfl⟩
    try simp only [Act.put, List.setIfInBounds_toArray, List.set_cons_zero, List.set_cons_succ]
    refine wpAnyH_take (i := 1) (oi := ?tko12) (v := ?tkv12) ?tkh12 (by kernel_rfl) (by kernel_rfl) (by kernel_rfl) ?tkq12 ?tky12 hHeld ?tkr12
    case tkh12 => (simp only [List.getElem?_toArray, List.getElem?_cons_succ, List.getElem?_cons_zero]; rfl)
    case tkq12 => exact fun _ _ _ h => h
    case tky12 => exact Or.inl ⟨by rfl, by intro wSw hSw; (try dsimp only at hSw); go_simp; try with_reducible rfl⟩
    try simp only [Act.put, List.setIfInBounds_toArray, List.set_cons_zero, List.set_cons_succ]
    refine wpAnyH_take (i := 2) (oi := ?tko13) (v := ?tkv13) ?tkh13 (by kernel_rfl) (by kernel_rfl) (by kernel_rfl) ?tkq13 ?tky13 hHeld ?tkr13
    case tkh13 => (simp only [List.getElem?_toArray, List.getElem?_cons_succ, List.getElem?_cons_zero]; rfl)
    case tkq13 => exact fun _ _ _ h => h
    case tky13 => exact Or.inl ⟨by rfl, by intro wSw hSw; (try dsimp only at hSw); go_simp; try with_reducible rfl⟩
    try simp only [Act.put, List.setIfInBounds_toArray, List.set_cons_zero, List.set_cons_succ]
    refine wpAnyH_take (i := 3) (oi := ?tko14) (v := ?tkv14) ?tkh14 (by kernel_rfl) (by kernel_rfl) (by kernel_rfl) ?tkq14 ?tky14 hHeld ?tkr14
    case tkh14 => (simp only [List.getElem?_toArray, List.getElem?_cons_succ, List.getElem?_cons_zero]; rfl)
    case tkq14 => exact fun _ _ _ h => h
    case tky14 => exact Or.inl ⟨by rfl, by intro wSw hSw; (try dsimp only at hSw); go_simp; try with_reducible rfl⟩
    try simp only [Act.put, List.setIfInBounds_toArray, List.set_cons_zero, List.set_cons_succ]
    refine wpAnyH_take (i := 4) (oi := ?tko15) (v := ?tkv15) ?tkh15 (by kernel_rfl) (by kernel_rfl) (by kernel_rfl) ?tkq15 ?tky15 hHeld ?tkr15
    case tkh15 => (simp only [List.getElem?_toArray, List.getElem?_cons_succ, List.getElem?_cons_zero]; rfl)
    case tkq15 => exact fun _ _ _ h => h
    case tky15 => exact Or.inl ⟨by rfl, by intro wSw hSw; (try dsimp only at hSw); go_simp; try with_reducible rfl⟩
    try simp only [Act.put, List.setIfInBounds_toArray, List.set_cons_zero, List.set_cons_succ]
    refine wpAnyH_take (i := 5) (oi := ?tko16) (v := ?tkv16) ?tkh16 (by kernel_rfl) (by kernel_rfl) (by kernel_rfl) ?tkq16 ?tky16 hHeld ?tkr16
    case tkh16 => (simp only [List.getElem?_toArray, List.getElem?_cons_succ, List.getElem?_cons_zero]; rfl)
    case tkq16 => exact fun _ _ _ h => h
    case tky16 => exact Or.inl ⟨by rfl, by intro wSw hSw; (try dsimp only at hSw); go_simp; try with_reducible rfl⟩
    try simp only [Act.put, List.setIfInBounds_toArray, List.set_cons_zero, List.set_cons_succ]
    refine wpAnyH_take (i := 6) (oi := ?tko17) (v := ?tkv17) ?tkh17 (by kernel_rfl) (by kernel_rfl) (by kernel_rfl) ?tkq17 ?tky17 hHeld ?tkr17
    case tkh17 => (simp only [List.getElem?_toArray, List.getElem?_cons_succ, List.getElem?_cons_zero]; rfl)
    case tkq17 => exact fun _ _ _ h => h
    case tky17 => exact Or.inl ⟨by rfl, by intro wSw hSw; (try dsimp only at hSw); go_simp; try with_reducible rfl⟩
    try simp only [Act.put, List.setIfInBounds_toArray, List.set_cons_zero, List.set_cons_succ]
    refine wpAnyH_take (i := 7) (oi := ?tko18) (v := ?tkv18) ?tkh18 (by kernel_rfl) (by kernel_rfl) (by kernel_rfl) ?tkq18 ?tky18 hHeld ?tkr18
    case tkh18 => (simp only [List.getElem?_toArray, List.getElem?_cons_succ, List.getElem?_cons_zero]; rfl)
    case tkq18 => exact fun _ _ _ h => h
    case tky18 => exact Or.inl ⟨by rfl, by intro wSw hSw; (try dsimp only at hSw); go_simp; try with_reducible rfl⟩
    try simp only [Act.put, List.setIfInBounds_toArray, List.set_cons_zero, List.set_cons_succ]
    refine wpAnyH_take (i := 8) (oi := ?tko19) (v := ?tkv19) ?tkh19 (by kernel_rfl) (by kernel_rfl) (by kernel_rfl) ?tkq19 ?tky19 hHeld ?tkr19
    case tkh19 => (simp only [List.getElem?_toArray, List.getElem?_cons_succ, List.getElem?_cons_zero]; rfl)
    case tkq19 => exact fun _ _ _ h => h
    case tky19 => exact Or.inl ⟨by rfl, by intro wSw hSw; (try dsimp only at hSw); go_simp; try with_reducible rfl⟩
    try simp only [Act.put, List.setIfInBounds_toArray, List.set_cons_zero, List.set_cons_succ]
    refine wpAnyH_take (i := 9) (oi := ?tko20) (v := ?tkv20) ?tkh20 (by kernel_rfl) (by kernel_rfl) (by kernel_rfl) ?tkq20 ?tky20 hHeld ?tkr20
    case tkh20 => (simp only [List.getElem?_toArray, List.getElem?_cons_succ, List.getElem?_cons_zero]; rfl)
    case tkq20 => exact fun _ _ _ h => h
    case tky20 => exact Or.inl ⟨by rfl, by intro wSw hSw; (try dsimp only at hSw); go_simp; try with_reducible rfl⟩
    try simp only [Act.put, List.setIfInBounds_toArray, List.set_cons_zero, List.set_cons_succ]
    refine wpAnyH_take (i := 10) (oi := ?tko21) (v := ?tkv21) ?tkh21 (by kernel_rfl) (by kernel_rfl) (by kernel_rfl) ?tkq21 ?tky21 hHeld ?tkr21
    case tkh21 => (simp only [List.getElem?_toArray, List.getElem?_cons_succ, List.getElem?_cons_zero]; rfl)
    case tkq21 => exact fun _ _ _ h => h
    case tky21 => exact Or.inl ⟨by rfl, by intro wSw hSw; (try dsimp only at hSw); go_simp; try with_reducible rfl⟩
    try simp only [Act.put, List.setIfInBounds_toArray, List.set_cons_zero, List.set_cons_succ]
    refine wpAnyH_take (i := 11) (oi := ?tko22) (v := ?tkv22) ?tkh22 (by kernel_rfl) (by kernel_rfl) (by kernel_rfl) ?tkq22 ?tky22 hHeld ?tkr22
    case tkh22 => (simp only [List.getElem?_toArray, List.getElem?_cons_succ, List.getElem?_cons_zero]; rfl)
    case tkq22 => exact fun _ _ _ h => h
    case tky22 => exact Or.inl ⟨by rfl, by intro wSw hSw; (try dsimp only at hSw); go_simp; try with_reducible rfl⟩
    try simp only [Act.put, List.setIfInBounds_toArray, List.set_cons_zero, List.set_cons_succ]
    refine wpAnyH_done (by kernel_rfl) ?_ _
    clear hHeld
    go_wp2
    go_ret
    exact ⟨by rw [HL.out]; rfl, HBU.out⟩
  · have HL := Lib.hid (show letsL sc N = 9223372036854775807 by unfold letsL; rw [if_neg (by rw [HM.out]; exact hNm)])
    have hNm' : m ≤ N := by omega
    go_enter Tryz.func104, Tryz.ntmps104
    go_wp2_with fail
    obtain ⟨V, hV⟩ : ∃ V, V = w.drew := ⟨_, rfl⟩
    have HBV := Lib.hid (show Below w.heap.size w V by rw [hV]; exact (Below.refl _ _).drew)
    have v2 := below_cell HBV.out x2
    have v3 := below_cell HBV.out x3
    clear x2 x3
    refine wp_region_held_drew (S := fun W => W.cell? ⟨g, 2, none⟩ = some (.slice B m d) ∧ W.cell? ⟨g, 3, none⟩ = some (.int .i64 (N : Nat))) (by kernel_rfl) (by rw [← hV]; exact ⟨v2, v3⟩) (fun hHeld => ?_)
    rw [← hV] at hHeld ⊢
    clear hV
    refine wpAnyH_take (i := 0) (oi := ?tko23) (v := ?tkv23) ?tkh23 (by kernel_rfl) (by kernel_rfl) (by kernel_rfl) ?tkq23 ?tky23 hHeld ?tkr23
    case tkh23 => (simp only [List.getElem?_toArray, List.getElem?_cons_zero]; rfl)
    case tkq23 => exact fun _ _ _ h => h
    case tky23 => exact Or.inl ⟨by rfl, by intro wSw hSw; (try dsimp only at hSw); go_simp; try with_reducible rfl⟩
    try simp only [Act.put, List.setIfInBounds_toArray, List.set_cons_zero, List.set_cons_succ]
    refine wpAnyH_take (i := 1) (oi := ?tko24) (v := ?tkv24) ?tkh24 (by kernel_rfl) (by kernel_rfl) (by kernel_rfl) ?tkq24 ?tky24 hHeld ?tkr24
    case tkh24 => (simp only [List.getElem?_toArray, List.getElem?_cons_succ, List.getElem?_cons_zero]; rfl)
    case tkq24 => exact fun _ _ _ h => h
    case tky24 => exact Or.inl ⟨by rfl, by intro wSw hSw; (try dsimp only at hSw); go_simp; try with_reducible rfl⟩
    try simp only [Act.put, List.setIfInBounds_toArray, List.set_cons_zero, List.set_cons_succ]
    refine wpAnyH_take (i := 2) (oi := ?tko25) (v := ?tkv25) ?tkh25 (by kernel_rfl) (by kernel_rfl) (by kernel_rfl) ?tkq25 ?tky25 hHeld ?tkr25
    case tkh25 => (simp only [List.getElem?_toArray, List.getElem?_cons_succ, List.getElem?_cons_zero]; rfl)
    case tkq25 => exact fun _ _ _ h => h
    case tky25 => exact Or.inl ⟨by rfl, by intro wSw hSw; (try dsimp only at hSw); go_simp; try with_reducible rfl⟩
    try simp only [Act.put, List.setIfInBounds_toArray, List.set_cons_zero, List.set_cons_succ]
    refine wpAnyH_take (i := 3) (oi := ?tko26) (v := ?tkv26) ?tkh26 (by kernel_rfl) (by kernel_rfl) (by kernel_rfl) ?tkq26 ?tky26 hHeld ?tkr26
    case tkh26 => (simp only [List.getElem?_toArray, List.getElem?_cons_succ, List.getElem?_cons_zero]; rfl)
    case tkq26 => exact fun _ _ _ h => h
    case tky26 => exact Or.inl ⟨by rfl, by intro wSw hSw; (try dsimp only at hSw); go_simp; try with_reducible rfl⟩
    try simp only [Act.put, List.setIfInBounds_toArray, List.set_cons_zero, List.set_cons_succ]
    refine wpAnyH_take (i := 4) (oi := ?tko27) (v := ?tkv27) ?tkh27 (by kernel_rfl) (by kernel_rfl) (by kernel_rfl) ?tkq27 ?tky27 hHeld ?tkr27
    case tkh27 => (simp only [List.getElem?_toArray, List.getElem?_cons_succ, List.getElem?_cons_zero]; rfl)
    case tkq27 => exact fun _ _ _ h => h
    case tky27 => exact Or.inl ⟨by rfl, by intro wSw hSw; (try dsimp only at hSw); go_simp; try with_reducible rfl⟩
    try simp only [Act.put, List.setIfInBounds_toArray, List.set_cons_zero, List.set_cons_succ]
    refine wpAnyH_take (i := 5) (oi := ?tko28) (v := ?tkv28) ?tkh28 (by kernel_rfl) (by kernel_rfl) (by kernel_rfl) ?tkq28 ?tky28 hHeld ?tkr28
    case tkh28 => (simp only [List.getElem?_toArray, List.getElem?_cons_succ, List.getElem?_cons_zero]; rfl)
    case tkq28 => exact fun _ _ _ h => h
    case tky28 => exact Or.inl ⟨by rfl, by intro wSw hSw; (try dsimp only at hSw); go_simp; try with_reducible rfl⟩
    try simp only [Act.put, List.setIfInBounds_toArray, List.set_cons_zero, List.set_cons_succ]
    refine wpAnyH_take (i := 6) (oi := ?tko29) (v := ?tkv29) ?tkh29 (by kernel_rfl) (by kernel_rfl) (by kernel_rfl) ?tkq29 ?tky29 hHeld ?tkr29
    case tkh29 => (simp only [List.getElem?_toArray, List.getElem?_cons_succ, List.getElem?_cons_zero]; rfl)
    case tkq29 => exact fun _ _ _ h => h
    case tky29 => exact Or.inl ⟨by rfl, by intro wSw hSw; (try dsimp only at hSw); go_simp; try with_reducible rfl⟩
    try simp only [Act.put, List.setIfInBounds_toArray, List.set_cons_zero, List.set_cons_succ]
    refine wpAnyH_take (i := 7) (oi := ?tko30) (v := ?tkv30) ?tkh30 (by kernel_rfl) (by kernel_rfl) (by kernel_rfl) ?tkq30 ?tky30 hHeld ?tkr30
    case tkh30 => (simp only [List.getElem?_toArray, List.getElem?_cons_succ, List.getElem?_cons_zero]; rfl)
    case tkq30 => exact fun _ _ _ h => h
    case tky30 => exact Or.inl ⟨by rfl, by intro wSw hSw; (try dsimp only at hSw); go_simp; try with_reducible rfl⟩
    try simp only [Act.put, List.setIfInBounds_toArray, List.set_cons_zero, List.set_cons_succ]
    refine wpAnyH_take (i := 8) (oi := ?tko31) (v := ?tkv31) ?tkh31 (by kernel_rfl) (by kernel_rfl) (by kernel_rfl) ?tkq31 ?tky31 hHeld ?tkr31
    case tkh31 => (simp only [List.getElem?_toArray, List.getElem?_cons_succ, List.getElem?_cons_zero]; rfl)
    case tkq31 => exact fun _ _ _ h => h
    case tky31 => exact Or.inl ⟨by rfl, by intro wSw hSw; (try dsimp only at hSw); go_simp; try with_reducible rfl⟩
    try simp only [Act.put, List.setIfInBounds_toArray, List.set_cons_zero, List.set_cons_succ]
    refine wpAnyH_take (i := 9) (oi := ?tko32) (v := ?tkv32) ?tkh32 (by kernel_rfl) (by kernel_rfl) (by kernel_rfl) ?tkq32 ?tky32 hHeld ?tkr32
    case tkh32 => (simp only [List.getElem?_toArray, List.getElem?_cons_succ, List.getElem?_cons_zero]; rfl)
    case tkq32 => exact fun _ _ _ h => h
    case tky32 => exact Or.inl ⟨by rfl, by intro wSw hSw; (try dsimp only at hSw); go_simp; try with_reducible rfl⟩
    try simp only [Act.put, List.setIfInBounds_toArray, List.set_cons_zero, List.set_cons_succ]
    refine wpAnyH_done (by kernel_rfl) ?_ _
    clear hHeld
    go_wp2_with fail
    go_ret
    exact ⟨by rw [HL.out]; rfl, HBV.out⟩

set_option maxHeartbeats 8000000 in
set_option maxRecDepth 100000 in
theorem landRead (S : Nat → Prop) (g : Nat) (bs sc : List Int) (f N : Nat) (p most : Int) (w : World) (h : LSrc S w g bs sc f N) (hN : N < 9223372036854775807) (hp : small64 p) (hmo : small64 most) (hbig : bs.length ≤ 140737488365568) :
    Calls Tryz.prog 85 #[.pointer (some ⟨g, 0, none⟩), .int .i64 p, .int .i64 most] w fun e w' => ∃ v, e = .returned (.tuple #[v, .int .i64 (readE bs.length f p most : Nat)]) ∧
      w'.ownsRow w.heap.size 5 1 v (readL bs f sc N p most).length ((readL bs f sc N p most).map (Value.int .u8)) ∧ LSrc S w' g bs sc f (readN bs.length f N p most) ∧ w.grownBy w' (some g) := by
  have q63 : maxLen = 9223372036854775807 := rfl
  obtain ⟨A, c, B, d, hb, hrd, hnc, hcm, hsc, hscm, hSA, hSB⟩ := h.ex
  have hle := h.le
  obtain ⟨hp1, hp2⟩ := hp
  obtain ⟨hm1, hm2⟩ := hmo
  have HS := Lib.hid h
  have HRD := Lib.hid hrd
  have x0 := hb.cell 0 rfl
  have x1 := hb.cell 1 rfl
  have HSA := Lib.hid hSA
  have HNE := Lib.hid h.ne
  obtain ⟨n, hn⟩ : ∃ n, bs.length = n := ⟨_, rfl⟩
  have HN := Lib.hid hn
  rw [hn] at hle x1 ⊢
  rw [hn] at hb
  have HB := Lib.hid hb
  have HF := Lib.hid (show ∀ e : Nat, e ≠ 0 → readE n f p most = e → ∃ v, Ending.returned (.tuple #[.slice none 0 0, .int .i64 (e : Nat)]) = .returned (.tuple #[v, .int .i64 (readE n f p most : Nat)]) ∧
      w.ownsRow w.heap.size 5 1 v (readL bs f sc N p most).length ((readL bs f sc N p most).map (Value.int .u8)) ∧ LSrc S w g bs sc f (readN n f N p most) ∧ w.grownBy w (some g) from fun e he hr => by
    have hl : readL bs f sc N p most = [] := readL_none (by rw [hn, hr]; exact he)
    have hnn : readN n f N p most = N := by unfold readN; rw [hr, if_neg he]
    rw [hl, hr, hnn]
    exact ⟨_, rfl, World.ownsRow_nil _ _ _ _, h, World.grownBy.refl w _⟩)
  rw [hn] at hbig
  clear hb hrd hsc hSA hSB hn h
  by_cases h1 : p < 0
  · have hr : readE n f p most = 1 := by unfold readE; rw [if_pos (Or.inl h1)]
    have HR := Lib.hid hr
    clear hr
    go_enter Tryz.func85, Tryz.ntmps85
    go_wp2
    refine bodyPost_ret (v := .tuple #[.slice none 0 0, .int .i64 1]) (by simp [results, Tryz.results85, go_sem]) rfl ?_
    exact HF.out 1 (by decide) HR.out
  by_cases h2 : most < 1
  · have hr : readE n f p most = 1 := by unfold readE; rw [if_pos (Or.inr h2)]
    have HR := Lib.hid hr
    clear hr
    go_enter Tryz.func85, Tryz.ntmps85
    go_wp2
    refine bodyPost_ret (v := .tuple #[.slice none 0 0, .int .i64 1]) (by simp [results, Tryz.results85, go_sem]) rfl ?_
    exact HF.out 1 (by decide) HR.out
  have h3 : ¬ (p < 0 ∨ most < 1) := by omega
  by_cases h4 : (n : Int) ≤ p
  · have hr : readE n f p most = 13 := by unfold readE; rw [if_neg h3, if_pos h4]
    have h4' : p ≥ (n : Int) := h4
    have HR := Lib.hid hr
    clear hr h4 h3
    go_enter Tryz.func85, Tryz.ntmps85
    go_wp2
    refine bodyPost_ret (v := .tuple #[.slice none 0 0, .int .i64 13]) (by simp [results, Tryz.results85, go_sem]) rfl ?_
    exact HF.out 13 (by decide) HR.out
  have h4' : ¬ p ≥ (n : Int) := h4
  by_cases h5 : (f : Int) ≤ p
  · have hr : readE n f p most = 10 := by unfold readE; rw [if_neg h3, if_neg h4, if_pos h5]
    have h5' : p ≥ (f : Int) := h5
    have HR := Lib.hid hr
    clear hr h4 h3 h5
    go_enter Tryz.func85, Tryz.ntmps85
    go_wp2
    refine bodyPost_ret (v := .tuple #[.slice none 0 0, .int .i64 10]) (by simp [results, Tryz.results85, go_sem]) rfl ?_
    exact HF.out 10 (by decide) HR.out
  have h5' : ¬ p ≥ (f : Int) := h5
  have hr : readE n f p most = 0 := by unfold readE; rw [if_neg h3, if_neg h4, if_neg h5]
  obtain ⟨k1, k2, k3, k4⟩ := readK_bd sc N hle hr
  have hl := readL_len sc N (bs := bs) (by rw [HN.out]; exact hle) (by rw [HN.out]; exact hr)
  obtain ⟨q, rfl⟩ : ∃ q : Nat, p = (q : Int) := Int.eq_ofNat_of_zero_le (by omega)
  obtain ⟨K, hK⟩ : ∃ K, readK f sc N (q : Int) most = K := ⟨_, rfl⟩
  rw [hK] at k1 k2 k3 k4 hl
  have hnn : readN n f N (q : Int) most = N + 1 := by unfold readN; rw [if_pos hr]
  have HR := Lib.hid hr
  have HL := Lib.hid hl
  have HNN := Lib.hid hnn
  have HLL := Lib.hid (show readL bs f sc N (q : Int) most = (bs.drop q).take K by unfold readL; rw [HN.out, if_pos hr, hK, Int.toNat_natCast])
  have hqK : q + K ≤ f := by omega
  have hsl := fun W => slice_midB (P := Tryz.prog) 28 (by kernel_rfl) 1 (by kernel_rfl) A f c q (q + K) (by omega) (by omega) W
  rw [show q + K - q = K by omega] at hsl
  obtain ⟨A7, hA7⟩ : ∃ A7, fromAddr A c q 1 = A7 := ⟨_, rfl⟩
  have hsl2 : ∀ W, (Instr.slice 28 (.slice A f c) (some (.int .i64 (q : Int))) (some (.int .i64 ((q : Int) + (K : Int)))) none).run Tryz.prog W = .ok (.slice A7 K (c - q)) W := fun W => by
    have := hsl W
    rw [hA7, show ((q + K : Nat) : Int) = (q : Int) + (K : Int) by omega] at this
    exact this
  have hfr := rd_fromB (c := c) (p := q) HRD.out hnc (by omega) (by omega)
  rw [hA7] at hfr
  have H7 := Lib.hid (show Rd .u8 w A7 K ((bs.drop q).take K) from by
    have e := hfr.1.take (m := K) (by omega)
    rw [List.drop_take, List.take_take, show min K (f - q) = K by omega] at e
    exact e)
  have HEND := Lib.hid (show ∀ v W, W.ownsRow w.heap.size 5 1 v K (((bs.drop q).take K).map (Value.int .u8)) → LSrc S W g bs sc f (N + 1) → w.grownBy W (some g) → ∃ v', Ending.returned (.tuple #[v, .int .i64 0]) = .returned (.tuple #[v', .int .i64 (readE n f (q : Int) most : Nat)]) ∧
      W.ownsRow w.heap.size 5 1 v' (readL bs f sc N (q : Int) most).length ((readL bs f sc N (q : Int) most).map (Value.int .u8)) ∧ LSrc S W g bs sc f (readN n f N (q : Int) most) ∧ w.grownBy W (some g) from fun v W hv hW hgr => by
    rw [HL.out, HR.out, HNN.out, HLL.out]
    exact ⟨v, rfl, hv, hW, hgr⟩)
  have HS7 := Lib.hid (show ∀ a, A7 = some a → a.block ≠ g from fun a e e2 => by
    obtain ⟨a', e1, e3⟩ := hfr.2 a e
    have := HSA.out a' e1 (by omega)
    rw [← e3, e2] at this
    exact HNE.out this)
  have hLK := lets_lim (sc := sc) (N := N) (m := min most ((f : Int) - (q : Int))) (by omega)
  rw [← k3] at hLK
  obtain ⟨L, hL⟩ : ∃ L, letsL sc N = L := ⟨_, rfl⟩
  rw [hL] at hLK
  have HLI := Lib.hid (fun W (hb : Below w.heap.size w W) => landLimit S g bs sc f N W (HS.out.below hb) hN)
  rw [hL] at HLI
  have hmin : ∀ (W : World) (ts : Array TypeId) (t : TypeId), (Builtin.min_ ts t #[.int .i64 most, .int .i64 ((f : Int) - (q : Int)), .int .i64 L]).run Tryz.prog W = .ok (.int .i64 (K : Int)) W := fun W ts t => by
    rw [← hLK]
    have e1 : (if (f : Int) - (q : Int) < most then (f : Int) - (q : Int) else most) = min most ((f : Int) - (q : Int)) := by
      rw [Int.min_def]; split <;> split <;> omega
    have e2 : (if L < min most ((f : Int) - (q : Int)) then L else min most ((f : Int) - (q : Int))) = min (min most ((f : Int) - (q : Int))) L := by
      rw [Int.min_def (min most _)]; split <;> split <;> omega
    simp [Builtin.min_, Builtin.min2, e1, e2]
  have hwr : IntKind.i64.wrap ((f : Int) - (q : Int)) = (f : Int) - (q : Int) := IntWalk.i64_in _ (by omega)
  clear hr hl hnn hK hsl hA7 hfr h3 h4 h5 HF k3 hLK hL
  go_enter Tryz.func85, Tryz.ntmps85
  go_wp2_with fail
  obtain ⟨V, hV⟩ : ∃ V, V = w.drew := ⟨_, rfl⟩
  have HBV := Lib.hid (show Below w.heap.size w V by rw [hV]; exact (Below.refl _ _).drew)
  have v0 := below_cell HBV.out x0
  clear x0 x1
  refine wp_region_held_drew (S := fun W => W.cell? ⟨g, 0, none⟩ = some (.slice A f c) ∧ Below w.heap.size w W) (by kernel_rfl) (by rw [← hV]; exact ⟨v0, HBV.out⟩) (fun hHeld => ?_)
  rw [← hV] at hHeld ⊢
  clear hV
  refine wpAnyH_take (i := 0) (oi := ?tko33) (v := ?tkv33) ?tkh33 (by kernel_rfl) (by kernel_rfl) (by kernel_rfl) ?tkq33 ?tky33 hHeld ?tkr33
  case tkh33 => (simp only [List.getElem?_toArray, List.getElem?_cons_zero]; rfl)
  case tkq33 => exact fun _ _ _ h => h
  case tky33 => exact Or.inl ⟨by rfl, by intro wSw hSw; (try dsimp only at hSw); go_simp; try with_reducible rfl⟩
  try simp only [Act.put, List.setIfInBounds_toArray, List.set_cons_zero, List.set_cons_succ]
  refine wpAnyH_take (i := 1) (oi := ?tko34) (v := ?tkv34) ?tkh34 (by kernel_rfl) (by kernel_rfl) (by kernel_rfl) ?tkq34 ?tky34 hHeld ?tkr34
  case tkh34 => (simp only [List.getElem?_toArray, List.getElem?_cons_succ, List.getElem?_cons_zero]; rfl)
  case tkq34 => exact fun _ _ _ h => h
  case tky34 => exact Or.inl ⟨by rfl, by intro wSw hSw; (try dsimp only at hSw); go_simp; try with_reducible rfl⟩
  try simp only [Act.put, List.setIfInBounds_toArray, List.set_cons_zero, List.set_cons_succ]
  refine wpAnyH_take (i := 2) (oi := ?tko35) (v := ?tkv35) ?tkh35 (by kernel_rfl) (by kernel_rfl) (by kernel_rfl) ?tkq35 ?tky35 hHeld ?tkr35
  case tkh35 => (simp only [List.getElem?_toArray, List.getElem?_cons_succ, List.getElem?_cons_zero]; rfl)
  case tkq35 => exact fun _ _ _ h => h
  case tky35 => exact Or.inl ⟨by rfl, by intro wSw hSw; (try dsimp only at hSw); go_simp; try with_reducible rfl⟩
  try simp only [Act.put, List.setIfInBounds_toArray, List.set_cons_zero, List.set_cons_succ]
  refine wpAnyH_take (i := 3) (oi := ?tko36) (v := ?tkv36) ?tkh36 (by kernel_rfl) (by kernel_rfl) (by kernel_rfl) ?tkq36 ?tky36 hHeld ?tkr36
  case tkh36 => (simp only [List.getElem?_toArray, List.getElem?_cons_succ, List.getElem?_cons_zero]; rfl)
  case tkq36 => exact fun _ _ _ h => h
  case tky36 => exact Or.inl ⟨by rfl, by intro wSw hSw; (try dsimp only at hSw); go_simp; try with_reducible rfl⟩
  try simp only [Act.put, List.setIfInBounds_toArray, List.set_cons_zero, List.set_cons_succ]
  refine wpAnyH_take (i := 4) (oi := ?tko37) (v := ?tkv37) ?tkh37 (by kernel_rfl) (by kernel_rfl) (by kernel_rfl) ?tkq37 ?tky37 hHeld ?tkr37
  case tkh37 => (simp only [List.getElem?_toArray, List.getElem?_cons_succ, List.getElem?_cons_zero]; rfl)
  case tkq37 => exact fun _ _ _ h => h
  case tky37 => exact Or.inl ⟨by rfl, by intro wSw hSw; (try dsimp only at hSw); go_simp; try with_reducible rfl⟩
  try simp only [Act.put, List.setIfInBounds_toArray, List.set_cons_zero, List.set_cons_succ]
  refine wpAnyH_take (i := 5) (oi := ?tko38) (v := ?tkv38) ?tkh38 (by kernel_rfl) (by kernel_rfl) (by kernel_rfl) ?tkq38 ?tky38 hHeld ?tkr38
  case tkh38 => (simp only [List.getElem?_toArray, List.getElem?_cons_succ, List.getElem?_cons_zero]; rfl)
  case tkq38 => exact fun _ _ _ h => h
  case tky38 => exact Or.inl ⟨by rfl, by intro wSw hSw; (try dsimp only at hSw); go_simp; try with_reducible rfl⟩
  try simp only [Act.put, List.setIfInBounds_toArray, List.set_cons_zero, List.set_cons_succ]
  refine wpAnyH_take (i := 6) (oi := ?tko39) (v := ?tkv39) ?tkh39 (by kernel_rfl) (by kernel_rfl) (by kernel_rfl) ?tkq39 ?tky39 hHeld ?tkr39
  case tkh39 => (simp only [List.getElem?_toArray, List.getElem?_cons_succ, List.getElem?_cons_zero]; rfl)
  case tkq39 => exact fun _ _ _ h => h
  case tky39 => exact Or.inl ⟨by rfl, by intro wSw hSw; (try dsimp only at hSw); go_simp; try with_reducible rfl⟩
  try simp only [Act.put, List.setIfInBounds_toArray, List.set_cons_zero, List.set_cons_succ]
  refine wpAnyH_take (i := 7) (oi := ?tko40) (v := ?tkv40) ?tkh40 (by kernel_rfl) (by kernel_rfl) (by kernel_rfl) ?tkq40 ?tky40 hHeld ?tkr40
  case tkh40 => (simp only [List.getElem?_toArray, List.getElem?_cons_succ, List.getElem?_cons_zero]; rfl)
  case tkq40 => exact fun _ _ _ h => h
  case tky40 => exact Or.inl ⟨by rfl, by intro wSw hSw; (try dsimp only at hSw); go_simp; try with_reducible rfl⟩
  try simp only [Act.put, List.setIfInBounds_toArray, List.set_cons_zero, List.set_cons_succ]
  refine wpAnyH_take (i := 8) (oi := ?tko41) (v := ?tkv41) ?tkh41 (by kernel_rfl) (by kernel_rfl) (by kernel_rfl) ?tkq41 ?tky41 hHeld ?tkr41
  case tkh41 => (simp only [List.getElem?_toArray, List.getElem?_cons_succ, List.getElem?_cons_zero]; rfl)
  case tkq41 => exact fun _ _ _ h => h
  case tky41 => exact Or.inl ⟨by rfl, by intro wSw hSw; (try dsimp only at hSw); go_simp; try with_reducible rfl⟩
  try simp only [Act.put, List.setIfInBounds_toArray, List.set_cons_zero, List.set_cons_succ]
  refine wpAnyH_ready (rs := [9]) (by kernel_rfl) (by simp) ?_
  refine AllReadyH.cons (o := ?tko42) ?tkh42 (fun Kt42 hKt42 => ?_) AllReadyH.nil
  case tkh42 => (simp only [List.getElem?_toArray, List.getElem?_cons_succ, List.getElem?_cons_zero]; rfl)
  go_simp
  (go_at_call 104; refine (HLI.out _ HBV.out).mono ?_; rintro e U ⟨rfl, hbU⟩; have HBU := Lib.hid (HBV.out.trans (hbU.mono HBV.out.size)); clear hbU)
  refine hKt42.out _ _ ?_ (fun hHt42 => ?_)
  · (exact ⟨below_cell HBU.out (HB.out.cell 0 rfl), HBU.out⟩)
  clear hKt42 Kt42 hHeld
  have hHeld := hHt42
  clear hHt42
  try simp only [Act.put, List.setIfInBounds_toArray, List.set_cons_zero, List.set_cons_succ]
  refine wpAnyH_take (i := 10) (oi := ?tko43) (v := ?tkv43) ?tkh43 (by kernel_rfl) (by kernel_rfl) (by kernel_rfl) ?tkq43 ?tky43 hHeld ?tkr43
  case tkh43 => (simp only [List.getElem?_toArray, List.getElem?_cons_succ, List.getElem?_cons_zero]; rfl)
  case tkq43 => exact fun _ _ _ h => h
  case tky43 => exact Or.inl ⟨by rfl, by intro wSw hSw; (try dsimp only at hSw); go_simp; try with_reducible rfl⟩
  try simp only [Act.put, List.setIfInBounds_toArray, List.set_cons_zero, List.set_cons_succ]
  refine wpAnyH_take (i := 11) (oi := ?tko44) (v := ?tkv44) ?tkh44 (by kernel_rfl) (by kernel_rfl) (by kernel_rfl) ?tkq44 ?tky44 hHeld ?tkr44
  case tkh44 => (simp only [List.getElem?_toArray, List.getElem?_cons_succ, List.getElem?_cons_zero]; rfl)
  case tkq44 => exact fun _ _ _ h => h
  case tky44 => exact Or.inl ⟨by rfl, by intro wSw hSw; (try dsimp only at hSw); go_simp; try with_reducible rfl⟩
  try simp only [Act.put, List.setIfInBounds_toArray, List.set_cons_zero, List.set_cons_succ]
  refine wpAnyH_done (by kernel_rfl) ?_ _
  clear hHeld v0
  have HBC := Lib.hid (HB.out.later HBU.out)
  have y0 := HBC.out.cell 0 rfl
  have y3 := HBC.out.cell 3 rfl
  have yf := HBC.out.fz 3 rfl
  have HSU := Lib.hid (HS.out.below HBU.out).step
  have z0 := (HBC.out.set 3 (.int .i64 ((N : Int) + 1)) (by simp)).cell 0 rfl
  have HGR := Lib.hid (grown_trans (grown_below HBU.out (some g)) (grown_cell U ⟨g, 3, none⟩ (.int .i64 ((N : Int) + 1))))
  have HR7 := Lib.hid (rd_grown (H7.out.below HBU.out) (grown_cell U ⟨g, 3, none⟩ (.int .i64 ((N : Int) + 1))) (fun a e _ e2 => by injection e2 with e2; exact HS7.out a e e2))
  go_wp2_with (go_at_call 57; refine (cloneB A7 K (c - q) _ _ HR7.out (by omega)).mono ?_; rintro e w9 ⟨v9, rfl, hown9, hb9⟩)
  refine bodyPost_ret (v := .tuple #[v9, .int .i64 0]) (by simp [results, Tryz.results85, go_sem]) rfl ?_
  exact HEND.out _ _ (own_weaken hown9 HGR.out.size) (HSU.out.below hb9) (grown_trans HGR.out (grown_below hb9 _))

set_option maxHeartbeats 8000000 in
set_option maxRecDepth 100000 in
theorem landNew (A : Option Addr) (n c : Nat) (bs : List Int) (B : Option Addr) (m d : Nat) (sc : List Int) (fault : Int) (w : World) (hnc : n ≤ c) (_hc : c ≤ maxLen) (h : Rd .u8 w A n bs) (hs : Rd .i64 w B m sc) (hn : n ≤ 140737488365568) (hm : m * 8 ≤ 140737488351232) :
    Calls Tryz.prog 31 #[.slice A n c, .slice B m d, .int .i64 fault] w fun e w' => ∃ g, e = .returned (.pointer (some ⟨g, 0, none⟩)) ∧ LSrc (fun b => w.heap.size ≤ b ∧ b < w'.heap.size ∧ b ≠ g) w' g bs sc (faultP n fault) 0 ∧ w.heap.size ≤ g ∧ Below w.heap.size w w' := by
  have q63 : maxLen = 9223372036854775807 := rfl
  have hbl := h.len
  have hsl := hs.len
  have HM := Lib.hid (show ∀ (f : Nat) (A' : Option Addr) (c' : Nat) (B' : Option Addr) (d' : Nat) (W : World), f = faultP n fault → W.ownsRow w.heap.size 5 1 (.slice A' f c') f ((bs.take f).map (Value.int .u8)) → W.ownsRow w.heap.size 3 1 (.slice B' m d') m (sc.map (Value.int .i64)) → Below w.heap.size w W →
      ∃ g, Ending.returned (.pointer (some ⟨W.heap.size, 0, none⟩)) = .returned (.pointer (some ⟨g, 0, none⟩)) ∧ LSrc (fun b => w.heap.size ≤ b ∧ b < (W.alloc (.cells #[.slice A' f c', .int .i64 (n : Nat), .slice B' m d', .int .i64 0] 97)).heap.size ∧ b ≠ g) (W.alloc (.cells #[.slice A' f c', .int .i64 (n : Nat), .slice B' m d', .int .i64 0] 97)) g bs sc (faultP n fault) 0 ∧ w.heap.size ≤ g ∧
        Below w.heap.size w (W.alloc (.cells #[.slice A' f c', .int .i64 (n : Nat), .slice B' m d', .int .i64 0] 97)) from fun f A' c' B' d' W hf h1 h2 hb => by
    subst hf
    refine ⟨W.heap.size, rfl, ?_, hb.size, hb.alloc hb.size _⟩
    have hr1 := Rd.own h1 (fun z hz => h.all z (List.mem_of_mem_take hz))
    have hr2 := Rd.own h2 hs.all
    obtain ⟨A2, c2, e1, g1, g2, -, g3⟩ := own_slice h1
    obtain ⟨B2, d2, e2, k1, k2, -, k3⟩ := own_slice h2
    injection e1 with e1 _ e1'
    injection e2 with e2 _ e2'
    subst e1; subst e1'; subst e2; subst e2'
    refine ⟨⟨A', c', B', d', ?_, hr1.alloc _, g1, g2, ?_, ?_, ?_, ?_⟩, fun hh => hh.2.2 rfl, by rw [hbl]; exact fault_le _ _⟩
    · rw [hbl, hsl]; exact Blk.new _ _ _ _ rfl
    · rw [hsl]; exact hr2.alloc _
    · omega
    · intro a e _
      have := g3 a e
      exact ⟨this.1, by simp; omega, by omega⟩
    · intro a e _
      have := k3 a e
      exact ⟨this.1, by simp; omega, by omega⟩)
  have HE := Lib.hid (show ∀ (f : Nat) (W : World) (v : Value) (W' : World) (u : Value), W.ownsRow w.heap.size 5 1 v f ((bs.take f).map (Value.int .u8)) → Below w.heap.size w W → Below W.heap.size W W' → W'.ownsRow W.heap.size 3 1 u m (sc.map (Value.int .i64)) →
      ∃ A' c' B' d', v = .slice A' f c' ∧ u = .slice B' m d' ∧ W'.ownsRow w.heap.size 5 1 (.slice A' f c') f ((bs.take f).map (Value.int .u8)) ∧ W'.ownsRow w.heap.size 3 1 (.slice B' m d') m (sc.map (Value.int .i64)) ∧ Below w.heap.size w W' from fun f W v W' u h1 hb h2 h3 => by
    obtain ⟨A', c', rfl, -⟩ := own_slice h1
    obtain ⟨B', d', rfl, -⟩ := own_slice h3
    exact ⟨A', c', B', d', rfl, rfl, below_row h1 h2, own_weaken h3 hb.size, hb.trans (h2.mono hb.size)⟩)
  have CB := fun (f : Nat) (hf : f ≤ n) => cloneB A f c (bs.take f) w (h.take hf) (by omega)
  have CI := Lib.hid (fun W (hb : Below w.heap.size w W) => cloneI B m d sc W (hs.below hb) (by omega))
  have hsu := fun (f : Nat) (hf : f ≤ n) => slice_upto (P := Tryz.prog) 28 (by kernel_rfl) 1 (by kernel_rfl) A n c f (by omega)
  by_cases h1 : fault < 0 ∨ (n : Int) ≤ fault
  · have HF := Lib.hid (show n = faultP n fault by unfold faultP; split <;> omega)
    have HCB := Lib.hid (CB n (Nat.le_refl _))
    clear CB hsu h hs hbl hsl
    rcases h1 with h1 | h1
    · have h2 : ¬ fault ≥ 0 := by omega
      go_enter Tryz.func31, Tryz.ntmps31
      go_wp2_with (first
        | (go_at_call 57; refine HCB.out.mono ?_; rintro e w4 ⟨v4, rfl, hown4, hb4⟩; have HO4 := Lib.hid hown4; have HB4 := Lib.hid hb4; clear hown4 hb4)
        | (go_at_call 58; refine (CI.out w4 HB4.out).mono ?_; rintro e w5 ⟨v5, rfl, hown5, hb5⟩; obtain ⟨A5, c5, B5, d5, rfl, rfl, h6, h7, h8⟩ := HE.out n w4 v4 w5 v5 HO4.out HB4.out hb5 hown5; have H6 := Lib.hid h6; have H7 := Lib.hid h7; have H8 := Lib.hid h8; clear hown5 hb5 h6 h7 h8))
      go_ret
      exact HM.out n A5 c5 B5 d5 w5 HF.out H6.out H7.out H8.out
    · have h2 : fault ≥ 0 := by omega
      have h3 : ¬ fault < (n : Int) := by omega
      go_enter Tryz.func31, Tryz.ntmps31
      go_wp2_with (first
        | (go_at_call 57; refine HCB.out.mono ?_; rintro e w4 ⟨v4, rfl, hown4, hb4⟩; have HO4 := Lib.hid hown4; have HB4 := Lib.hid hb4; clear hown4 hb4)
        | (go_at_call 58; refine (CI.out w4 HB4.out).mono ?_; rintro e w5 ⟨v5, rfl, hown5, hb5⟩; obtain ⟨A5, c5, B5, d5, rfl, rfl, h6, h7, h8⟩ := HE.out n w4 v4 w5 v5 HO4.out HB4.out hb5 hown5; have H6 := Lib.hid h6; have H7 := Lib.hid h7; have H8 := Lib.hid h8; clear hown5 hb5 h6 h7 h8))
      go_ret
      exact HM.out n A5 c5 B5 d5 w5 HF.out H6.out H7.out H8.out
  · obtain ⟨f, rfl⟩ : ∃ f : Nat, fault = (f : Int) := Int.eq_ofNat_of_zero_le (by omega)
    have h2 : (f : Int) ≥ 0 := by omega
    have h3 : (f : Int) < (n : Int) := by omega
    have HF := Lib.hid (show f = faultP n (f : Int) by unfold faultP; rw [if_neg (by omega)]; omega)
    have HCB := Lib.hid (CB f (by omega))
    have hsf := hsu f (by omega)
    clear CB hsu h hs hbl hsl h1
    go_enter Tryz.func31, Tryz.ntmps31
    go_wp2_with (first
      | (go_at_call 57; refine HCB.out.mono ?_; rintro e w4 ⟨v4, rfl, hown4, hb4⟩; have HO4 := Lib.hid hown4; have HB4 := Lib.hid hb4; clear hown4 hb4)
      | (go_at_call 58; refine (CI.out w4 HB4.out).mono ?_; rintro e w5 ⟨v5, rfl, hown5, hb5⟩; obtain ⟨A5, c5, B5, d5, rfl, rfl, h6, h7, h8⟩ := HE.out f w4 v4 w5 v5 HO4.out HB4.out hb5 hown5; have H6 := Lib.hid h6; have H7 := Lib.hid h7; have H8 := Lib.hid h8; clear hown5 hb5 h6 h7 h8))
    go_ret
    exact HM.out f A5 c5 B5 d5 w5 HF.out H6.out H7.out H8.out

theorem nilRead (p most : Int) (w : World) : Calls Tryz.prog 85 #[.pointer none, .int .i64 p, .int .i64 most] w fun e w' => e = .returned (.tuple #[.slice none 0 0, .int .i64 1]) ∧ w' = w := by
  go_enter Tryz.func85, Tryz.ntmps85
  go_wp2
  refine bodyPost_ret (v := .tuple #[.slice none 0 0, .int .i64 1]) (by simp [results, Tryz.results85, go_sem]) rfl ?_
  exact ⟨rfl, rfl⟩
end Go.Proofs.YtimbbfneaaglbaaGreat.Src
