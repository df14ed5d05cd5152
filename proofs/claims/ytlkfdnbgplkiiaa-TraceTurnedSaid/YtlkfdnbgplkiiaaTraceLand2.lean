/-
  The walks of the landed package trace: same, slices.EqualFunc over events, Front. By an AI agent.
-/
import Derived.Test.YtlkfdnbgplkiiaaTraceLand1
import Derived.Test.YtlkfdnbgplkiiaaTraceRef5
import Derived.Shelf.Abstract
namespace Go.Proofs.Ytlkfdnbgplkiiaa.Trace
open Go.RowKit Go.Proofs.Ytlkfdnbgplkiiaa.Ints Go.Proofs.Ytlkfdnbgplkiiaa.Mem

set_option maxHeartbeats 4000000 in
set_option maxRecDepth 100000 in
theorem landSame (x y : Ev) (K1 K2 : Option Addr) (c1 c2 : Nat) (w : World) (hx : EvOk w x K1 c1) (hy : EvOk w y K2 c2) :
    Calls Try.prog 41 #[.agg #[.int .u64 x.time, .slice K1 x.ids.length c1], .agg #[.int .u64 y.time, .slice K2 y.ids.length c2]] w fun e w' => e = .returned (.bool (decide (x = y))) ∧ Below w.heap.size w w' := by
  have hE := fun W (hb : Below w.heap.size w W) => equalInts K1 K2 x.ids.length c1 y.ids.length c2 x.ids y.ids W (hx.2.1.below hb) (hy.2.1.below hb) (Nat.le_trans hx.2.2.1 hx.2.2.2) (Nat.le_trans hy.2.2.1 hy.2.2.2)
  have HX := Lib.hid hx
  obtain ⟨n1, hn1⟩ : ∃ n, x.ids.length = n := ⟨_, rfl⟩
  obtain ⟨n2, hn2⟩ : ∃ n, y.ids.length = n := ⟨_, rfl⟩
  obtain ⟨hx1, hx2⟩ := wf_u64 hx.1
  obtain ⟨hy1, hy2⟩ := wf_u64 hy.1
  rw [ev_eq, ← int_beq]
  rw [hn1, hn2] at hE ⊢
  obtain ⟨a, ha⟩ : ∃ a, x.time = a := ⟨_, rfl⟩
  obtain ⟨b, hb⟩ : ∃ b, y.time = b := ⟨_, rfl⟩
  rw [ha] at hx1 hx2
  rw [hb] at hy1 hy2
  rw [ha, hb]
  obtain ⟨r, hr⟩ : ∃ r, decide (x.ids = y.ids) = r := ⟨_, rfl⟩
  rw [hr] at hE ⊢
  have HE := Lib.hid hE
  clear hE hr hn1 hn2 hx hy ha hb
  rcases hab : (a == b)
  · go_enter Try.func41, Try.ntmps41
    go_wp2
    go_ret
    exact ⟨rfl, ((Below.refl _ _).alloc (Nat.le_refl _) _).alloc (le_alloc (Nat.le_refl _)) _⟩
  · go_enter Try.func41, Try.ntmps41
    go_wp2_with (go_at_call 50; refine (HE.out _ (((Below.refl _ _).alloc (Nat.le_refl _) _).alloc (le_alloc (Nat.le_refl _)) _)).mono ?_; rintro e w' ⟨rfl, q, rfl⟩)
    go_ret
    exact ⟨by simp, below_drewN (((Below.refl _ _).alloc (Nat.le_refl _) _).alloc (le_alloc (Nat.le_refl _)) _) _⟩

theorem two_under {w w' : World} {o o' : Obj} (hb : Below ((w.alloc o).alloc o').heap.size ((w.alloc o).alloc o') w') : Below w.heap.size w w' := below_alloc (below_alloc hb)

set_option maxHeartbeats 8000000 in
set_option maxRecDepth 100000 in
theorem landEqualFunc (g : Nat) (eg : ∀ args w, (callFunc g args).run Try.prog w = .ok (.enter g args) w)
    (hg : ∀ (x y : Ev) (K1 K2 : Option Addr) (c1 c2 : Nat) (W : World), EvOk W x K1 c1 → EvOk W y K2 c2 → Calls Try.prog g #[.agg #[.int .u64 x.time, .slice K1 x.ids.length c1], .agg #[.int .u64 y.time, .slice K2 y.ids.length c2]] W fun e w' => e = .returned (.bool (decide (x = y))) ∧ Below W.heap.size W w')
    (A B : Option Addr) (n c m d : Nat) (a b : List Ev) (w : World) (ha : a.length = n) (hb : b.length = m) (hn : n ≤ maxLen) (hA : Evs Any w A a) (hB : Evs Any w B b) :
    Calls Try.prog 40 #[.slice A n c, .slice B m d, .func (.func g) #[] #[]] w fun e w' => e = .returned (.bool (decide (a = b))) ∧ Below w.heap.size w w' := by
  have hni : (n : Int) ≤ 9223372036854775807 := by have : maxLen = 9223372036854775807 := rfl; omega
  have HLA := Lib.hid ha
  have HLB := Lib.hid hb
  have HNA := Lib.hid hA
  have HNB := Lib.hid hB
  have HFN := Lib.hid hg
  clear ha hb hA hB hn hg
  by_cases hnm : n = m
  · subst hnm
    have hne : ((n : Int) != (n : Int)) = false := by simp
    go_enter Try.func40, Try.ntmps40
    go_wp2
    go_loopw [17] (fun i wr => ∃ k : Nat, k ≤ n ∧ i = .int .i64 k ∧ Below w.heap.size w wr ∧ Hid (∀ j : Nat, j < k → a.getD j noEv = b.getD j noEv)) (fun i _ => n - (intOf i).toNat)
    case atStart => exact ⟨0, Nat.zero_le _, rfl, Below.refl _ _, fun j hj => absurd hj (by omega)⟩
    case round =>
      obtain ⟨k, hk, rfl, hB, HZ⟩ := hrel
      have HB := Lib.hid hB
      clear hB
      by_cases hkn : k < n
      · have hkn' : (k : Int) < (n : Int) := by omega
        have hk0 : (0 : Int) ≤ (k : Int) := by omega
        have hka : k < a.length := by have := HLA.out; omega
        have hkb : k < b.length := by have := HLB.out; omega
        obtain ⟨b1, off1, K1, c1, e1, x0, x1, hX⟩ := (HNA.out.below HB.out).kids hka
        obtain ⟨b2, off2, K2, c2, e2, y0, y1, hY⟩ := (HNB.out.below HB.out).kids hkb
        have hS := fun W (hb : Below wr.heap.size wr W) => HFN.out (a.getD k noEv) (b.getD k noEv) K1 K2 c1 c2 W (hX.below hb) (hY.below hb)
        obtain ⟨x, hx⟩ : ∃ x, a.getD k noEv = x := ⟨_, rfl⟩
        obtain ⟨y, hy⟩ : ∃ y, b.getD k noEv = y := ⟨_, rfl⟩
        rw [hx] at x0 x1 hS
        rw [hy] at y0 y1 hS
        obtain ⟨n1, hn1⟩ : ∃ n, x.ids.length = n := ⟨_, rfl⟩
        obtain ⟨n2, hn2⟩ : ∃ n, y.ids.length = n := ⟨_, rfl⟩
        rw [hn1] at x1 hS
        rw [hn2] at y1 hS
        have HXE := Lib.hid hx
        have HYE := Lib.hid hy
        have HKA := Lib.hid hka
        subst e1
        subst e2
        obtain ⟨t1, ht1⟩ : ∃ t, x.time = t := ⟨_, rfl⟩
        obtain ⟨t2, ht2⟩ : ∃ t, y.time = t := ⟨_, rfl⟩
        rw [ht1] at x0 hS
        rw [ht2] at y0 hS
        have y0' : ∀ o : Obj, (wr.alloc o).cell? ⟨b2, off2 + k * 2, none⟩ = some (.int .u64 t2) := fun o => Lib.cell?_alloc_marked o y0
        have y1' : ∀ o : Obj, (wr.alloc o).cell? ⟨b2, off2 + k * 2 + 1, none⟩ = some (.slice K2 n2 c2) := fun o => Lib.cell?_alloc_marked o y1
        have hkd : (k : Int) < (n : Int) := hkn'
        by_cases hxy : x = y
        · rw [decide_eq_true hxy] at hS
          have HS := Lib.hid hS
          have HZ2 := Lib.hid (good_more HZ.out (p := fun j => a.getD j noEv = b.getD j noEv) (k := k) (by rw [HXE.out, HYE.out]; exact hxy))
          clear hS hX hY hx hy hn1 hn2 ht1 ht2 hka hkb hxy
          go_wp2_with (go_at_fn g; refine (HS.out _ (((Below.refl _ _).alloc (Nat.le_refl _) _).alloc (le_alloc (Nat.le_refl _)) _)).mono ?_; rintro e w1 ⟨rfl, hb1⟩)
          go_roundw
          case rel => exact ⟨k + 1, by omega, by go_num, HB.out.trans ((two_under hb1).mono HB.out.size), HZ2⟩
          case measure => simp [intOf]; omega
        · rw [decide_eq_false hxy] at hS
          have HS := Lib.hid hS
          have HR := Lib.hid (show decide (a = b) = false from decide_eq_false fun e => hxy (by rw [← HXE.out, ← HYE.out, e]))
          clear hS hX hY hx hy hn1 hn2 ht1 ht2 hka hkb hxy
          go_wp2_with (go_at_fn g; refine (HS.out _ (((Below.refl _ _).alloc (Nat.le_refl _) _).alloc (le_alloc (Nat.le_refl _)) _)).mono ?_; rintro e w1 ⟨rfl, hb1⟩)
          go_ret
          exact ⟨by rw [HR.out]; rfl, HB.out.trans ((two_under hb1).mono HB.out.size)⟩
      · have hge : decide ((k : Int) < (n : Int)) = false := by simp; omega
        have HR := Lib.hid (show decide (a = b) = true from decide_eq_true (evs_ext (by rw [HLA.out, HLB.out]) (fun j hj => HZ.out j (by have := HLA.out; omega))))
        go_wp2
        go_ret
        exact ⟨by rw [HR.out]; rfl, HB.out⟩
  · have hne : ((n : Int) != (m : Int)) = true := by simp; omega
    have HR := Lib.hid (show decide (a = b) = false from decide_eq_false fun e => hnm (by rw [← HLA.out, ← HLB.out, e]))
    clear hnm
    go_enter Try.func40, Try.ntmps40
    go_wp2
    go_ret
    exact ⟨by rw [HR.out]; rfl, Below.refl _ _⟩


/-- A trace that a trace which may be begins with may be. -/
theorem front_may {t u : Tr} (hu : mayT u = true) (hn : t.names = u.names) (he : t.events = u.events.take t.events.length) : mayT t = true := by
  rw [mayT_iff] at hu ⊢
  rw [hn, he]
  exact ⟨hu.1, evs_take hu.2 _⟩
theorem front_plain (t u : Tr) : frontT t u = (mayT u && (decide (t.names = u.names) && decide (t.events = u.events.take t.events.length))) := by
  unfold frontT
  by_cases hu : mayT u = true
  · by_cases hn : t.names = u.names
    · by_cases he : t.events = u.events.take t.events.length
      · rw [front_may hu hn he, Bool.true_and]
      · rw [decide_eq_false he]
        simp
    · rw [decide_eq_false hn]
      simp
  · rw [show mayT u = false by simpa using hu]
    simp
theorem enterSame : ∀ args w, (callFunc 41 args).run Try.prog w = .ok (.enter 41 args) w := enters_of Try.func41 (by kernel_rfl) rfl

set_option maxHeartbeats 16000000 in
set_option maxRecDepth 100000 in
theorem landFront (NA : Option Addr) (nn nc : Nat) (EA : Option Addr) (ne ec : Nat) (NB : Option Addr) (mn mc : Nat) (EB : Option Addr) (me mk : Nat) (t u : Tr) (w : World)
    (h : TrOk Any w NA nn nc EA ne ec t) (k : TrOk Any w NB mn mc EB me mk u) :
    Calls Try.prog 24 #[.agg #[.slice NA nn nc, .slice EA ne ec], .agg #[.slice NB mn mc, .slice EB me mk]] w fun e w' => e = .returned (.bool (frontT t u)) ∧ Below w.heap.size w w' := by
  have hm : maxLen = 9223372036854775807 := rfl
  have hne : (ne : Int) ≤ 9223372036854775807 := by have := h.ecap; omega
  have hme : (me : Int) ≤ 9223372036854775807 := by have := k.ecap; omega
  have hmk : (me : Int) ≤ (mk : Int) := by have := k.ecap.1; omega
  have hM2 := fun W (hb : Below w.heap.size w W) => landMay NB mn mc EB me mk u W (k.below hb)
  have hE := fun W (hb : Below w.heap.size w W) => equalStrs NA NB nn nc mn mc t.names u.names W h.nlen k.nlen (h.names.below hb) (k.names.below hb) (Nat.le_trans h.ncap.1 h.ncap.2) (Nat.le_trans k.ncap.1 k.ncap.2)
  have hF := fun (hle : ne ≤ me) W (hb : Below w.heap.size w W) => landEqualFunc 41 enterSame landSame EA EB ne ec ne mk t.events (u.events.take ne) W h.elen (by rw [List.length_take, k.elen]; omega) (Nat.le_trans h.ecap.1 h.ecap.2) (h.evs.below hb) ((k.evs.below hb).take ne)
  have hFT : frontT t u = (mayT u && (decide (t.names = u.names) && decide (t.events = u.events.take ne))) := by rw [front_plain, h.elen]
  have hgt : ¬ ne ≤ me → decide (t.events = u.events.take ne) = false := fun hle => decide_eq_false fun e => by
    have := congrArg List.length e
    rw [List.length_take, h.elen, k.elen] at this
    omega
  obtain ⟨m2, e2⟩ : ∃ r, mayT u = r := ⟨_, rfl⟩
  obtain ⟨p, hp⟩ : ∃ r, decide (t.names = u.names) = r := ⟨_, rfl⟩
  obtain ⟨q, hq⟩ : ∃ r, decide (t.events = u.events.take ne) = r := ⟨_, rfl⟩
  rw [e2] at hM2
  rw [hp] at hE
  rw [hq] at hF hgt
  rw [e2, hp, hq] at hFT
  rw [hFT]
  have HM2 := Lib.hid hM2
  have HE := Lib.hid hE
  have HALL := Lib.hid (fun W (hb : Below (boxT2 w NA nn nc EA ne ec NB mn mc EB me mk).heap.size (boxT2 w NA nn nc EA ne ec NB mn mc EB me mk) W) => (⟨(boxT2_all hb).1, (boxT2_all hb).2.1, (boxT2_all hb).2.2.1, (boxT2_all hb).2.2.2, hb⟩ :
    W.cell? ⟨w.heap.size, 0, none⟩ = some (.slice NA nn nc) ∧ W.cell? ⟨w.heap.size, 1, none⟩ = some (.slice EA ne ec) ∧ W.cell? ⟨w.heap.size + 1, 0, none⟩ = some (.slice NB mn mc) ∧ W.cell? ⟨w.heap.size + 1, 1, none⟩ = some (.slice EB me mk) ∧ Below (boxT2 w NA nn nc EA ne ec NB mn mc EB me mk).heap.size (boxT2 w NA nn nc EA ne ec NB mn mc EB me mk) W))
  have HBW := Lib.hid (fun W (hb : Below (boxT2 w NA nn nc EA ne ec NB mn mc EB me mk).heap.size (boxT2 w NA nn nc EA ne ec NB mn mc EB me mk) W) => boxT2_below (boxT2_call hb))
  clear hM2 hE hm h k e2 hp hq hFT
  cases m2
  · clear hF hgt
    go_enter Try.func24, Try.ntmps24
    go_wp2
    refine wp_region_held_drew (S := (fun W => W.cell? ⟨w.heap.size, 0, none⟩ = some (.slice NA nn nc) ∧ W.cell? ⟨w.heap.size, 1, none⟩ = some (.slice EA ne ec) ∧ W.cell? ⟨w.heap.size + 1, 0, none⟩ = some (.slice NB mn mc) ∧ W.cell? ⟨w.heap.size + 1, 1, none⟩ = some (.slice EB me mk) ∧ Below (boxT2 w NA nn nc EA ne ec NB mn mc EB me mk).heap.size (boxT2 w NA nn nc EA ne ec NB mn mc EB me mk) W)) (by kernel_rfl) (HALL.out _ (Below.refl _ _).drew) (fun hHeld => ?_)
    refine wpAnyH_take (i := 0) (oi := ?tko1) (v := ?tkv1) ?tkh1 (by kernel_rfl) (by kernel_rfl) (by kernel_rfl) ?tkq1 ?tky1 hHeld ?tkr1
    case tkh1 => (simp only [List.getElem?_toArray, List.getElem?_cons_zero]; rfl)
    case tkq1 => exact fun _ _ _ h => h
    case tky1 => exact Or.inl ⟨by rfl, by intro wSw hSw; (try dsimp only at hSw); go_simp; try with_reducible rfl⟩
    try simp only [Act.put, List.setIfInBounds_toArray, List.set_cons_zero, List.set_cons_succ]
    refine wpAnyH_ready (rs := [1]) (by kernel_rfl) (by simp) ?_
    refine AllReadyH.cons (o := ?tko2) ?tkh2 (fun Kt2 hKt2 => ?_) AllReadyH.nil
    case tkh2 => (simp only [List.getElem?_toArray, List.getElem?_cons_succ, List.getElem?_cons_zero]; rfl)
    go_simp
    (go_at_call 16; refine (HM2.out _ (HBW.out _ (Below.refl _ _).drew)).mono ?_; rintro e w1 ⟨rfl, hb1⟩; have hB1 := undrew1 hb1)
    refine hKt2.out _ _ ?_ (fun hHt2 => ?_)
    · (exact HALL.out _ hB1)
    clear hKt2 Kt2 hHeld
    have hHeld := hHt2
    clear hHt2
    try simp only [Act.put, List.setIfInBounds_toArray, List.set_cons_zero, List.set_cons_succ]
    refine wpAnyH_take (i := 2) (oi := ?tko3) (v := ?tkv3) ?tkh3 (by kernel_rfl) (by kernel_rfl) (by kernel_rfl) ?tkq3 ?tky3 hHeld ?tkr3
    case tkh3 => (simp only [List.getElem?_toArray, List.getElem?_cons_succ, List.getElem?_cons_zero]; rfl)
    case tkq3 => exact fun _ _ _ h => h
    case tky3 => exact Or.inl ⟨by rfl, by intro wSw hSw; (try dsimp only at hSw); go_simp; try with_reducible rfl⟩
    try simp only [Act.put, List.setIfInBounds_toArray, List.set_cons_zero, List.set_cons_succ]
    refine Skips.skips (by kernel_rfl) (fun _ _ _ _ _ h => h) hHeld [3, 4, 5, 6, 7] _ 22 _ _ (by kernel_rfl) ?tkk4 ?tkr4
    case tkk4 => kernel_rfl
    simp only [Skips.skipAct, Skips.skipListed, List.getElem?_toArray, List.getElem?_cons_succ, List.getElem?_cons_zero, Act.put, List.setIfInBounds_toArray, List.set_cons_zero, List.set_cons_succ]
    refine wpAnyH_take (i := 8) (oi := ?tko5) (v := ?tkv5) ?tkh5 (by kernel_rfl) (by kernel_rfl) (by kernel_rfl) ?tkq5 ?tky5 hHeld ?tkr5
    case tkh5 => (simp only [List.getElem?_toArray, List.getElem?_cons_succ, List.getElem?_cons_zero]; rfl)
    case tkq5 => exact fun _ _ _ h => h
    case tky5 => exact Or.inl ⟨by rfl, by intro wSw hSw; (try dsimp only at hSw); go_simp; try with_reducible rfl⟩
    try simp only [Act.put, List.setIfInBounds_toArray, List.set_cons_zero, List.set_cons_succ]
    refine wpAnyH_take (i := 9) (oi := ?tko6) (v := ?tkv6) ?tkh6 (by kernel_rfl) (by kernel_rfl) (by kernel_rfl) ?tkq6 ?tky6 hHeld ?tkr6
    case tkh6 => (simp only [List.getElem?_toArray, List.getElem?_cons_succ, List.getElem?_cons_zero]; rfl)
    case tkq6 => exact fun _ _ _ h => h
    case tky6 => exact Or.inl ⟨by rfl, by intro wSw hSw; (try dsimp only at hSw); go_simp; try with_reducible rfl⟩
    try simp only [Act.put, List.setIfInBounds_toArray, List.set_cons_zero, List.set_cons_succ]
    refine Skips.skips (by kernel_rfl) (fun _ _ _ _ _ h => h) hHeld [10, 11, 12, 13, 14, 15, 16] _ 13 _ _ (by kernel_rfl) ?tkk7 ?tkr7
    case tkk7 => kernel_rfl
    simp only [Skips.skipAct, Skips.skipListed, List.getElem?_toArray, List.getElem?_cons_succ, List.getElem?_cons_zero, Act.put, List.setIfInBounds_toArray, List.set_cons_zero, List.set_cons_succ]
    refine wpAnyH_take (i := 17) (oi := ?tko8) (v := ?tkv8) ?tkh8 (by kernel_rfl) (by kernel_rfl) (by kernel_rfl) ?tkq8 ?tky8 hHeld ?tkr8
    case tkh8 => (simp only [List.getElem?_toArray, List.getElem?_cons_succ, List.getElem?_cons_zero]; rfl)
    case tkq8 => exact fun _ _ _ h => h
    case tky8 => exact Or.inl ⟨by rfl, by intro wSw hSw; (try dsimp only at hSw); go_simp; try with_reducible rfl⟩
    try simp only [Act.put, List.setIfInBounds_toArray, List.set_cons_zero, List.set_cons_succ]
    refine wpAnyH_take (i := 18) (oi := ?tko9) (v := ?tkv9) ?tkh9 (by kernel_rfl) (by kernel_rfl) (by kernel_rfl) ?tkq9 ?tky9 hHeld ?tkr9
    case tkh9 => (simp only [List.getElem?_toArray, List.getElem?_cons_succ, List.getElem?_cons_zero]; rfl)
    case tkq9 => exact fun _ _ _ h => h
    case tky9 => exact Or.inl ⟨by rfl, by intro wSw hSw; (try dsimp only at hSw); go_simp; try with_reducible rfl⟩
    try simp only [Act.put, List.setIfInBounds_toArray, List.set_cons_zero, List.set_cons_succ]
    refine Skips.skips (by kernel_rfl) (fun _ _ _ _ _ h => h) hHeld [19, 20, 21, 22, 23, 24, 25, 26, 27] _ 2 _ _ (by kernel_rfl) ?tkk10 ?tkr10
    case tkk10 => kernel_rfl
    simp only [Skips.skipAct, Skips.skipListed, List.getElem?_toArray, List.getElem?_cons_succ, List.getElem?_cons_zero, Act.put, List.setIfInBounds_toArray, List.set_cons_zero, List.set_cons_succ]
    refine wpAnyH_take (i := 28) (oi := ?tko11) (v := ?tkv11) ?tkh11 (by kernel_rfl) (by kernel_rfl) (by kernel_rfl) ?tkq11 ?tky11 hHeld ?tkr11
    case tkh11 => (simp only [List.getElem?_toArray, List.getElem?_cons_succ, List.getElem?_cons_zero]; rfl)
    case tkq11 => exact fun _ _ _ h => h
    case tky11 => exact Or.inl ⟨by rfl, by intro wSw hSw; (try dsimp only at hSw); go_simp; try with_reducible rfl⟩
    try simp only [Act.put, List.setIfInBounds_toArray, List.set_cons_zero, List.set_cons_succ]
    refine wpAnyH_take (i := 29) (oi := ?tko12) (v := ?tkv12) ?tkh12 (by kernel_rfl) (by kernel_rfl) (by kernel_rfl) ?tkq12 ?tky12 hHeld ?tkr12
    case tkh12 => (simp only [List.getElem?_toArray, List.getElem?_cons_succ, List.getElem?_cons_zero]; rfl)
    case tkq12 => exact fun _ _ _ h => h
    case tky12 => exact Or.inl ⟨by rfl, by intro wSw hSw; (try dsimp only at hSw); go_simp; try with_reducible rfl⟩
    try simp only [Act.put, List.setIfInBounds_toArray, List.set_cons_zero, List.set_cons_succ]
    refine wpAnyH_done (by kernel_rfl) ?_ _
    go_wp2
    go_ret
    exact ⟨rfl, HBW.out _ hB1⟩
  · cases p
    · clear hF hgt
      go_enter Try.func24, Try.ntmps24
      go_wp2
      refine wp_region_held_drew (S := (fun W => W.cell? ⟨w.heap.size, 0, none⟩ = some (.slice NA nn nc) ∧ W.cell? ⟨w.heap.size, 1, none⟩ = some (.slice EA ne ec) ∧ W.cell? ⟨w.heap.size + 1, 0, none⟩ = some (.slice NB mn mc) ∧ W.cell? ⟨w.heap.size + 1, 1, none⟩ = some (.slice EB me mk) ∧ Below (boxT2 w NA nn nc EA ne ec NB mn mc EB me mk).heap.size (boxT2 w NA nn nc EA ne ec NB mn mc EB me mk) W)) (by kernel_rfl) (HALL.out _ (Below.refl _ _).drew) (fun hHeld => ?_)
      refine wpAnyH_take (i := 0) (oi := ?tko13) (v := ?tkv13) ?tkh13 (by kernel_rfl) (by kernel_rfl) (by kernel_rfl) ?tkq13 ?tky13 hHeld ?tkr13
      case tkh13 => (simp only [List.getElem?_toArray, List.getElem?_cons_zero]; rfl)
      case tkq13 => exact fun _ _ _ h => h
      case tky13 => exact Or.inl ⟨by rfl, by intro wSw hSw; (try dsimp only at hSw); go_simp; try with_reducible rfl⟩
      try simp only [Act.put, List.setIfInBounds_toArray, List.set_cons_zero, List.set_cons_succ]
      refine wpAnyH_ready (rs := [1]) (by kernel_rfl) (by simp) ?_
      refine AllReadyH.cons (o := ?tko14) ?tkh14 (fun Kt14 hKt14 => ?_) AllReadyH.nil
      case tkh14 => (simp only [List.getElem?_toArray, List.getElem?_cons_succ, List.getElem?_cons_zero]; rfl)
      go_simp
      (go_at_call 16; refine (HM2.out _ (HBW.out _ (Below.refl _ _).drew)).mono ?_; rintro e w1 ⟨rfl, hb1⟩; have hB1 := undrew1 hb1)
      refine hKt14.out _ _ ?_ (fun hHt14 => ?_)
      · (exact HALL.out _ hB1)
      clear hKt14 Kt14 hHeld
      have hHeld := hHt14
      clear hHt14
      try simp only [Act.put, List.setIfInBounds_toArray, List.set_cons_zero, List.set_cons_succ]
      refine wpAnyH_take (i := 2) (oi := ?tko15) (v := ?tkv15) ?tkh15 (by kernel_rfl) (by kernel_rfl) (by kernel_rfl) ?tkq15 ?tky15 hHeld ?tkr15
      case tkh15 => (simp only [List.getElem?_toArray, List.getElem?_cons_succ, List.getElem?_cons_zero]; rfl)
      case tkq15 => exact fun _ _ _ h => h
      case tky15 => exact Or.inl ⟨by rfl, by intro wSw hSw; (try dsimp only at hSw); go_simp; try with_reducible rfl⟩
      try simp only [Act.put, List.setIfInBounds_toArray, List.set_cons_zero, List.set_cons_succ]
      refine wpAnyH_take (i := 3) (oi := ?tko16) (v := ?tkv16) ?tkh16 (by kernel_rfl) (by kernel_rfl) (by kernel_rfl) ?tkq16 ?tky16 hHeld ?tkr16
      case tkh16 => (simp only [List.getElem?_toArray, List.getElem?_cons_succ, List.getElem?_cons_zero]; rfl)
      case tkq16 => exact fun _ _ _ h => h
      case tky16 => exact Or.inl ⟨by rfl, by intro wSw hSw; (try dsimp only at hSw); go_simp; try with_reducible rfl⟩
      try simp only [Act.put, List.setIfInBounds_toArray, List.set_cons_zero, List.set_cons_succ]
      refine wpAnyH_take (i := 4) (oi := ?tko17) (v := ?tkv17) ?tkh17 (by kernel_rfl) (by kernel_rfl) (by kernel_rfl) ?tkq17 ?tky17 hHeld ?tkr17
      case tkh17 => (simp only [List.getElem?_toArray, List.getElem?_cons_succ, List.getElem?_cons_zero]; rfl)
      case tkq17 => exact fun _ _ _ h => h
      case tky17 => exact Or.inl ⟨by rfl, by intro wSw hSw; (try dsimp only at hSw); go_simp; try with_reducible rfl⟩
      try simp only [Act.put, List.setIfInBounds_toArray, List.set_cons_zero, List.set_cons_succ]
      refine wpAnyH_take (i := 5) (oi := ?tko18) (v := ?tkv18) ?tkh18 (by kernel_rfl) (by kernel_rfl) (by kernel_rfl) ?tkq18 ?tky18 hHeld ?tkr18
      case tkh18 => (simp only [List.getElem?_toArray, List.getElem?_cons_succ, List.getElem?_cons_zero]; rfl)
      case tkq18 => exact fun _ _ _ h => h
      case tky18 => exact Or.inl ⟨by rfl, by intro wSw hSw; (try dsimp only at hSw); go_simp; try with_reducible rfl⟩
      try simp only [Act.put, List.setIfInBounds_toArray, List.set_cons_zero, List.set_cons_succ]
      refine wpAnyH_take (i := 6) (oi := ?tko19) (v := ?tkv19) ?tkh19 (by kernel_rfl) (by kernel_rfl) (by kernel_rfl) ?tkq19 ?tky19 hHeld ?tkr19
      case tkh19 => (simp only [List.getElem?_toArray, List.getElem?_cons_succ, List.getElem?_cons_zero]; rfl)
      case tkq19 => exact fun _ _ _ h => h
      case tky19 => exact Or.inl ⟨by rfl, by intro wSw hSw; (try dsimp only at hSw); go_simp; try with_reducible rfl⟩
      try simp only [Act.put, List.setIfInBounds_toArray, List.set_cons_zero, List.set_cons_succ]
      refine wpAnyH_ready (rs := [7]) (by kernel_rfl) (by simp) ?_
      refine AllReadyH.cons (o := ?tko20) ?tkh20 (fun Kt20 hKt20 => ?_) AllReadyH.nil
      case tkh20 => (simp only [List.getElem?_toArray, List.getElem?_cons_succ, List.getElem?_cons_zero]; rfl)
      go_simp
      (go_at_call 38; refine (HE.out _ (HBW.out _ hB1)).mono ?_; rintro e w' ⟨rfl, z, rfl⟩; have hB3 := below_drewN hB1 z)
      refine hKt20.out _ _ ?_ (fun hHt20 => ?_)
      · (exact HALL.out _ hB3)
      clear hKt20 Kt20 hHeld
      have hHeld := hHt20
      clear hHt20
      try simp only [Act.put, List.setIfInBounds_toArray, List.set_cons_zero, List.set_cons_succ]
      refine wpAnyH_take (i := 8) (oi := ?tko21) (v := ?tkv21) ?tkh21 (by kernel_rfl) (by kernel_rfl) (by kernel_rfl) ?tkq21 ?tky21 hHeld ?tkr21
      case tkh21 => (simp only [List.getElem?_toArray, List.getElem?_cons_succ, List.getElem?_cons_zero]; rfl)
      case tkq21 => exact fun _ _ _ h => h
      case tky21 => exact Or.inl ⟨by rfl, by intro wSw hSw; (try dsimp only at hSw); go_simp; try with_reducible rfl⟩
      try simp only [Act.put, List.setIfInBounds_toArray, List.set_cons_zero, List.set_cons_succ]
      refine wpAnyH_take (i := 9) (oi := ?tko22) (v := ?tkv22) ?tkh22 (by kernel_rfl) (by kernel_rfl) (by kernel_rfl) ?tkq22 ?tky22 hHeld ?tkr22
      case tkh22 => (simp only [List.getElem?_toArray, List.getElem?_cons_succ, List.getElem?_cons_zero]; rfl)
      case tkq22 => exact fun _ _ _ h => h
      case tky22 => exact Or.inl ⟨by rfl, by intro wSw hSw; (try dsimp only at hSw); go_simp; try with_reducible rfl⟩
      try simp only [Act.put, List.setIfInBounds_toArray, List.set_cons_zero, List.set_cons_succ]
      refine Skips.skips (by kernel_rfl) (fun _ _ _ _ _ h => h) hHeld [10, 11, 12, 13, 14, 15, 16] _ 13 _ _ (by kernel_rfl) ?tkk23 ?tkr23
      case tkk23 => kernel_rfl
      simp only [Skips.skipAct, Skips.skipListed, List.getElem?_toArray, List.getElem?_cons_succ, List.getElem?_cons_zero, Act.put, List.setIfInBounds_toArray, List.set_cons_zero, List.set_cons_succ]
      refine wpAnyH_take (i := 17) (oi := ?tko24) (v := ?tkv24) ?tkh24 (by kernel_rfl) (by kernel_rfl) (by kernel_rfl) ?tkq24 ?tky24 hHeld ?tkr24
      case tkh24 => (simp only [List.getElem?_toArray, List.getElem?_cons_succ, List.getElem?_cons_zero]; rfl)
      case tkq24 => exact fun _ _ _ h => h
      case tky24 => exact Or.inl ⟨by rfl, by intro wSw hSw; (try dsimp only at hSw); go_simp; try with_reducible rfl⟩
      try simp only [Act.put, List.setIfInBounds_toArray, List.set_cons_zero, List.set_cons_succ]
      refine wpAnyH_take (i := 18) (oi := ?tko25) (v := ?tkv25) ?tkh25 (by kernel_rfl) (by kernel_rfl) (by kernel_rfl) ?tkq25 ?tky25 hHeld ?tkr25
      case tkh25 => (simp only [List.getElem?_toArray, List.getElem?_cons_succ, List.getElem?_cons_zero]; rfl)
      case tkq25 => exact fun _ _ _ h => h
      case tky25 => exact Or.inl ⟨by rfl, by intro wSw hSw; (try dsimp only at hSw); go_simp; try with_reducible rfl⟩
      try simp only [Act.put, List.setIfInBounds_toArray, List.set_cons_zero, List.set_cons_succ]
      refine Skips.skips (by kernel_rfl) (fun _ _ _ _ _ h => h) hHeld [19, 20, 21, 22, 23, 24, 25, 26, 27] _ 2 _ _ (by kernel_rfl) ?tkk26 ?tkr26
      case tkk26 => kernel_rfl
      simp only [Skips.skipAct, Skips.skipListed, List.getElem?_toArray, List.getElem?_cons_succ, List.getElem?_cons_zero, Act.put, List.setIfInBounds_toArray, List.set_cons_zero, List.set_cons_succ]
      refine wpAnyH_take (i := 28) (oi := ?tko27) (v := ?tkv27) ?tkh27 (by kernel_rfl) (by kernel_rfl) (by kernel_rfl) ?tkq27 ?tky27 hHeld ?tkr27
      case tkh27 => (simp only [List.getElem?_toArray, List.getElem?_cons_succ, List.getElem?_cons_zero]; rfl)
      case tkq27 => exact fun _ _ _ h => h
      case tky27 => exact Or.inl ⟨by rfl, by intro wSw hSw; (try dsimp only at hSw); go_simp; try with_reducible rfl⟩
      try simp only [Act.put, List.setIfInBounds_toArray, List.set_cons_zero, List.set_cons_succ]
      refine wpAnyH_take (i := 29) (oi := ?tko28) (v := ?tkv28) ?tkh28 (by kernel_rfl) (by kernel_rfl) (by kernel_rfl) ?tkq28 ?tky28 hHeld ?tkr28
      case tkh28 => (simp only [List.getElem?_toArray, List.getElem?_cons_succ, List.getElem?_cons_zero]; rfl)
      case tkq28 => exact fun _ _ _ h => h
      case tky28 => exact Or.inl ⟨by rfl, by intro wSw hSw; (try dsimp only at hSw); go_simp; try with_reducible rfl⟩
      try simp only [Act.put, List.setIfInBounds_toArray, List.set_cons_zero, List.set_cons_succ]
      refine wpAnyH_done (by kernel_rfl) ?_ _
      go_wp2
      go_ret
      exact ⟨rfl, HBW.out _ hB3⟩
    · by_cases hle : ne ≤ me
      · have hle' : (ne : Int) ≤ (me : Int) := by omega
        have HF := Lib.hid (hF hle)
        have hsl := slice_upto (P := Try.prog) 24 typeEvents 2 sizeElemEvents EB me mk ne (by omega)
        clear hF hgt
        go_enter Try.func24, Try.ntmps24
        go_wp2
        refine wp_region_held_drew (S := (fun W => W.cell? ⟨w.heap.size, 0, none⟩ = some (.slice NA nn nc) ∧ W.cell? ⟨w.heap.size, 1, none⟩ = some (.slice EA ne ec) ∧ W.cell? ⟨w.heap.size + 1, 0, none⟩ = some (.slice NB mn mc) ∧ W.cell? ⟨w.heap.size + 1, 1, none⟩ = some (.slice EB me mk) ∧ Below (boxT2 w NA nn nc EA ne ec NB mn mc EB me mk).heap.size (boxT2 w NA nn nc EA ne ec NB mn mc EB me mk) W)) (by kernel_rfl) (HALL.out _ (Below.refl _ _).drew) (fun hHeld => ?_)
        refine wpAnyH_take (i := 0) (oi := ?tko29) (v := ?tkv29) ?tkh29 (by kernel_rfl) (by kernel_rfl) (by kernel_rfl) ?tkq29 ?tky29 hHeld ?tkr29
        case tkh29 => (simp only [List.getElem?_toArray, List.getElem?_cons_zero]; rfl)
        case tkq29 => exact fun _ _ _ h => h
        case tky29 => exact Or.inl ⟨by rfl, by intro wSw hSw; (try dsimp only at hSw); go_simp; try with_reducible rfl⟩
        try simp only [Act.put, List.setIfInBounds_toArray, List.set_cons_zero, List.set_cons_succ]
        refine wpAnyH_ready (rs := [1]) (by kernel_rfl) (by simp) ?_
        refine AllReadyH.cons (o := ?tko30) ?tkh30 (fun Kt30 hKt30 => ?_) AllReadyH.nil
        case tkh30 => (simp only [List.getElem?_toArray, List.getElem?_cons_succ, List.getElem?_cons_zero]; rfl)
        go_simp
        (go_at_call 16; refine (HM2.out _ (HBW.out _ (Below.refl _ _).drew)).mono ?_; rintro e w1 ⟨rfl, hb1⟩; have hB1 := undrew1 hb1)
        refine hKt30.out _ _ ?_ (fun hHt30 => ?_)
        · (exact HALL.out _ hB1)
        clear hKt30 Kt30 hHeld
        have hHeld := hHt30
        clear hHt30
        try simp only [Act.put, List.setIfInBounds_toArray, List.set_cons_zero, List.set_cons_succ]
        refine wpAnyH_take (i := 2) (oi := ?tko31) (v := ?tkv31) ?tkh31 (by kernel_rfl) (by kernel_rfl) (by kernel_rfl) ?tkq31 ?tky31 hHeld ?tkr31
        case tkh31 => (simp only [List.getElem?_toArray, List.getElem?_cons_succ, List.getElem?_cons_zero]; rfl)
        case tkq31 => exact fun _ _ _ h => h
        case tky31 => exact Or.inl ⟨by rfl, by intro wSw hSw; (try dsimp only at hSw); go_simp; try with_reducible rfl⟩
        try simp only [Act.put, List.setIfInBounds_toArray, List.set_cons_zero, List.set_cons_succ]
        refine wpAnyH_take (i := 3) (oi := ?tko32) (v := ?tkv32) ?tkh32 (by kernel_rfl) (by kernel_rfl) (by kernel_rfl) ?tkq32 ?tky32 hHeld ?tkr32
        case tkh32 => (simp only [List.getElem?_toArray, List.getElem?_cons_succ, List.getElem?_cons_zero]; rfl)
        case tkq32 => exact fun _ _ _ h => h
        case tky32 => exact Or.inl ⟨by rfl, by intro wSw hSw; (try dsimp only at hSw); go_simp; try with_reducible rfl⟩
        try simp only [Act.put, List.setIfInBounds_toArray, List.set_cons_zero, List.set_cons_succ]
        refine wpAnyH_take (i := 4) (oi := ?tko33) (v := ?tkv33) ?tkh33 (by kernel_rfl) (by kernel_rfl) (by kernel_rfl) ?tkq33 ?tky33 hHeld ?tkr33
        case tkh33 => (simp only [List.getElem?_toArray, List.getElem?_cons_succ, List.getElem?_cons_zero]; rfl)
        case tkq33 => exact fun _ _ _ h => h
        case tky33 => exact Or.inl ⟨by rfl, by intro wSw hSw; (try dsimp only at hSw); go_simp; try with_reducible rfl⟩
        try simp only [Act.put, List.setIfInBounds_toArray, List.set_cons_zero, List.set_cons_succ]
        refine wpAnyH_take (i := 5) (oi := ?tko34) (v := ?tkv34) ?tkh34 (by kernel_rfl) (by kernel_rfl) (by kernel_rfl) ?tkq34 ?tky34 hHeld ?tkr34
        case tkh34 => (simp only [List.getElem?_toArray, List.getElem?_cons_succ, List.getElem?_cons_zero]; rfl)
        case tkq34 => exact fun _ _ _ h => h
        case tky34 => exact Or.inl ⟨by rfl, by intro wSw hSw; (try dsimp only at hSw); go_simp; try with_reducible rfl⟩
        try simp only [Act.put, List.setIfInBounds_toArray, List.set_cons_zero, List.set_cons_succ]
        refine wpAnyH_take (i := 6) (oi := ?tko35) (v := ?tkv35) ?tkh35 (by kernel_rfl) (by kernel_rfl) (by kernel_rfl) ?tkq35 ?tky35 hHeld ?tkr35
        case tkh35 => (simp only [List.getElem?_toArray, List.getElem?_cons_succ, List.getElem?_cons_zero]; rfl)
        case tkq35 => exact fun _ _ _ h => h
        case tky35 => exact Or.inl ⟨by rfl, by intro wSw hSw; (try dsimp only at hSw); go_simp; try with_reducible rfl⟩
        try simp only [Act.put, List.setIfInBounds_toArray, List.set_cons_zero, List.set_cons_succ]
        refine wpAnyH_ready (rs := [7]) (by kernel_rfl) (by simp) ?_
        refine AllReadyH.cons (o := ?tko36) ?tkh36 (fun Kt36 hKt36 => ?_) AllReadyH.nil
        case tkh36 => (simp only [List.getElem?_toArray, List.getElem?_cons_succ, List.getElem?_cons_zero]; rfl)
        go_simp
        (go_at_call 38; refine (HE.out _ (HBW.out _ hB1)).mono ?_; rintro e w' ⟨rfl, z, rfl⟩; have hB3 := below_drewN hB1 z)
        refine hKt36.out _ _ ?_ (fun hHt36 => ?_)
        · (exact HALL.out _ hB3)
        clear hKt36 Kt36 hHeld
        have hHeld := hHt36
        clear hHt36
        try simp only [Act.put, List.setIfInBounds_toArray, List.set_cons_zero, List.set_cons_succ]
        refine wpAnyH_take (i := 8) (oi := ?tko37) (v := ?tkv37) ?tkh37 (by kernel_rfl) (by kernel_rfl) (by kernel_rfl) ?tkq37 ?tky37 hHeld ?tkr37
        case tkh37 => (simp only [List.getElem?_toArray, List.getElem?_cons_succ, List.getElem?_cons_zero]; rfl)
        case tkq37 => exact fun _ _ _ h => h
        case tky37 => exact Or.inl ⟨by rfl, by intro wSw hSw; (try dsimp only at hSw); go_simp; try with_reducible rfl⟩
        try simp only [Act.put, List.setIfInBounds_toArray, List.set_cons_zero, List.set_cons_succ]
        refine wpAnyH_take (i := 9) (oi := ?tko38) (v := ?tkv38) ?tkh38 (by kernel_rfl) (by kernel_rfl) (by kernel_rfl) ?tkq38 ?tky38 hHeld ?tkr38
        case tkh38 => (simp only [List.getElem?_toArray, List.getElem?_cons_succ, List.getElem?_cons_zero]; rfl)
        case tkq38 => exact fun _ _ _ h => h
        case tky38 => exact Or.inl ⟨by rfl, by intro wSw hSw; (try dsimp only at hSw); go_simp; try with_reducible rfl⟩
        try simp only [Act.put, List.setIfInBounds_toArray, List.set_cons_zero, List.set_cons_succ]
        refine wpAnyH_take (i := 10) (oi := ?tko39) (v := ?tkv39) ?tkh39 (by kernel_rfl) (by kernel_rfl) (by kernel_rfl) ?tkq39 ?tky39 hHeld ?tkr39
        case tkh39 => (simp only [List.getElem?_toArray, List.getElem?_cons_succ, List.getElem?_cons_zero]; rfl)
        case tkq39 => exact fun _ _ _ h => h
        case tky39 => exact Or.inl ⟨by rfl, by intro wSw hSw; (try dsimp only at hSw); go_simp; try with_reducible rfl⟩
        try simp only [Act.put, List.setIfInBounds_toArray, List.set_cons_zero, List.set_cons_succ]
        refine wpAnyH_take (i := 11) (oi := ?tko40) (v := ?tkv40) ?tkh40 (by kernel_rfl) (by kernel_rfl) (by kernel_rfl) ?tkq40 ?tky40 hHeld ?tkr40
        case tkh40 => (simp only [List.getElem?_toArray, List.getElem?_cons_succ, List.getElem?_cons_zero]; rfl)
        case tkq40 => exact fun _ _ _ h => h
        case tky40 => exact Or.inl ⟨by rfl, by intro wSw hSw; (try dsimp only at hSw); go_simp; try with_reducible rfl⟩
        try simp only [Act.put, List.setIfInBounds_toArray, List.set_cons_zero, List.set_cons_succ]
        refine wpAnyH_take (i := 12) (oi := ?tko41) (v := ?tkv41) ?tkh41 (by kernel_rfl) (by kernel_rfl) (by kernel_rfl) ?tkq41 ?tky41 hHeld ?tkr41
        case tkh41 => (simp only [List.getElem?_toArray, List.getElem?_cons_succ, List.getElem?_cons_zero]; rfl)
        case tkq41 => exact fun _ _ _ h => h
        case tky41 => exact Or.inl ⟨by rfl, by intro wSw hSw; (try dsimp only at hSw); go_simp; try with_reducible rfl⟩
        try simp only [Act.put, List.setIfInBounds_toArray, List.set_cons_zero, List.set_cons_succ]
        refine wpAnyH_take (i := 13) (oi := ?tko42) (v := ?tkv42) ?tkh42 (by kernel_rfl) (by kernel_rfl) (by kernel_rfl) ?tkq42 ?tky42 hHeld ?tkr42
        case tkh42 => (simp only [List.getElem?_toArray, List.getElem?_cons_succ, List.getElem?_cons_zero]; rfl)
        case tkq42 => exact fun _ _ _ h => h
        case tky42 => exact Or.inl ⟨by rfl, by intro wSw hSw; (try dsimp only at hSw); go_simp; try with_reducible rfl⟩
        try simp only [Act.put, List.setIfInBounds_toArray, List.set_cons_zero, List.set_cons_succ]
        refine wpAnyH_take (i := 14) (oi := ?tko43) (v := ?tkv43) ?tkh43 (by kernel_rfl) (by kernel_rfl) (by kernel_rfl) ?tkq43 ?tky43 hHeld ?tkr43
        case tkh43 => (simp only [List.getElem?_toArray, List.getElem?_cons_succ, List.getElem?_cons_zero]; rfl)
        case tkq43 => exact fun _ _ _ h => h
        case tky43 => exact Or.inl ⟨by rfl, by intro wSw hSw; (try dsimp only at hSw); go_simp; try with_reducible rfl⟩
        try simp only [Act.put, List.setIfInBounds_toArray, List.set_cons_zero, List.set_cons_succ]
        refine wpAnyH_take (i := 15) (oi := ?tko44) (v := ?tkv44) ?tkh44 (by kernel_rfl) (by kernel_rfl) (by kernel_rfl) ?tkq44 ?tky44 hHeld ?tkr44
        case tkh44 => (simp only [List.getElem?_toArray, List.getElem?_cons_succ, List.getElem?_cons_zero]; rfl)
        case tkq44 => exact fun _ _ _ h => h
        case tky44 => exact Or.inl ⟨by rfl, by intro wSw hSw; (try dsimp only at hSw); go_simp; try with_reducible rfl⟩
        try simp only [Act.put, List.setIfInBounds_toArray, List.set_cons_zero, List.set_cons_succ]
        refine wpAnyH_take (i := 16) (oi := ?tko45) (v := ?tkv45) ?tkh45 (by kernel_rfl) (by kernel_rfl) (by kernel_rfl) ?tkq45 ?tky45 hHeld ?tkr45
        case tkh45 => (simp only [List.getElem?_toArray, List.getElem?_cons_succ, List.getElem?_cons_zero]; rfl)
        case tkq45 => exact fun _ _ _ h => h
        case tky45 => exact Or.inl ⟨by rfl, by intro wSw hSw; (try dsimp only at hSw); go_simp; try with_reducible rfl⟩
        try simp only [Act.put, List.setIfInBounds_toArray, List.set_cons_zero, List.set_cons_succ]
        refine wpAnyH_take (i := 17) (oi := ?tko46) (v := ?tkv46) ?tkh46 (by kernel_rfl) (by kernel_rfl) (by kernel_rfl) ?tkq46 ?tky46 hHeld ?tkr46
        case tkh46 => (simp only [List.getElem?_toArray, List.getElem?_cons_succ, List.getElem?_cons_zero]; rfl)
        case tkq46 => exact fun _ _ _ h => h
        case tky46 => exact Or.inl ⟨by rfl, by intro wSw hSw; (try dsimp only at hSw); go_simp; try with_reducible rfl⟩
        try simp only [Act.put, List.setIfInBounds_toArray, List.set_cons_zero, List.set_cons_succ]
        refine wpAnyH_take (i := 18) (oi := ?tko47) (v := ?tkv47) ?tkh47 (by kernel_rfl) (by kernel_rfl) (by kernel_rfl) ?tkq47 ?tky47 hHeld ?tkr47
        case tkh47 => (simp only [List.getElem?_toArray, List.getElem?_cons_succ, List.getElem?_cons_zero]; rfl)
        case tkq47 => exact fun _ _ _ h => h
        case tky47 => exact Or.inl ⟨by rfl, by intro wSw hSw; (try dsimp only at hSw); go_simp; try with_reducible rfl⟩
        try simp only [Act.put, List.setIfInBounds_toArray, List.set_cons_zero, List.set_cons_succ]
        refine wpAnyH_take (i := 19) (oi := ?tko48) (v := ?tkv48) ?tkh48 (by kernel_rfl) (by kernel_rfl) (by kernel_rfl) ?tkq48 ?tky48 hHeld ?tkr48
        case tkh48 => (simp only [List.getElem?_toArray, List.getElem?_cons_succ, List.getElem?_cons_zero]; rfl)
        case tkq48 => exact fun _ _ _ h => h
        case tky48 => exact Or.inl ⟨by rfl, by intro wSw hSw; (try dsimp only at hSw); go_simp; try with_reducible rfl⟩
        try simp only [Act.put, List.setIfInBounds_toArray, List.set_cons_zero, List.set_cons_succ]
        refine wpAnyH_take (i := 20) (oi := ?tko49) (v := ?tkv49) ?tkh49 (by kernel_rfl) (by kernel_rfl) (by kernel_rfl) ?tkq49 ?tky49 hHeld ?tkr49
        case tkh49 => (simp only [List.getElem?_toArray, List.getElem?_cons_succ, List.getElem?_cons_zero]; rfl)
        case tkq49 => exact fun _ _ _ h => h
        case tky49 => exact Or.inl ⟨by rfl, by intro wSw hSw; (try dsimp only at hSw); go_simp; try with_reducible rfl⟩
        try simp only [Act.put, List.setIfInBounds_toArray, List.set_cons_zero, List.set_cons_succ]
        refine wpAnyH_take (i := 21) (oi := ?tko50) (v := ?tkv50) ?tkh50 (by kernel_rfl) (by kernel_rfl) (by kernel_rfl) ?tkq50 ?tky50 hHeld ?tkr50
        case tkh50 => (simp only [List.getElem?_toArray, List.getElem?_cons_succ, List.getElem?_cons_zero]; rfl)
        case tkq50 => exact fun _ _ _ h => h
        case tky50 => exact Or.inl ⟨by rfl, by intro wSw hSw; (try dsimp only at hSw); go_simp; try with_reducible rfl⟩
        try simp only [Act.put, List.setIfInBounds_toArray, List.set_cons_zero, List.set_cons_succ]
        refine wpAnyH_take (i := 22) (oi := ?tko51) (v := ?tkv51) ?tkh51 (by kernel_rfl) (by kernel_rfl) (by kernel_rfl) ?tkq51 ?tky51 hHeld ?tkr51
        case tkh51 => (simp only [List.getElem?_toArray, List.getElem?_cons_succ, List.getElem?_cons_zero]; rfl)
        case tkq51 => exact fun _ _ _ h => h
        case tky51 => exact Or.inl ⟨by rfl, by intro wSw hSw; (try dsimp only at hSw); go_simp; try with_reducible rfl⟩
        try simp only [Act.put, List.setIfInBounds_toArray, List.set_cons_zero, List.set_cons_succ]
        refine wpAnyH_take (i := 23) (oi := ?tko52) (v := ?tkv52) ?tkh52 (by kernel_rfl) (by kernel_rfl) (by kernel_rfl) ?tkq52 ?tky52 hHeld ?tkr52
        case tkh52 => (simp only [List.getElem?_toArray, List.getElem?_cons_succ, List.getElem?_cons_zero]; rfl)
        case tkq52 => exact fun _ _ _ h => h
        case tky52 => exact Or.inl ⟨by rfl, by intro wSw hSw; (try dsimp only at hSw); go_simp; try with_reducible rfl⟩
        try simp only [Act.put, List.setIfInBounds_toArray, List.set_cons_zero, List.set_cons_succ]
        refine wpAnyH_take (i := 24) (oi := ?tko53) (v := ?tkv53) ?tkh53 (by kernel_rfl) (by kernel_rfl) (by kernel_rfl) ?tkq53 ?tky53 hHeld ?tkr53
        case tkh53 => (simp only [List.getElem?_toArray, List.getElem?_cons_succ, List.getElem?_cons_zero]; rfl)
        case tkq53 => exact fun _ _ _ h => h
        case tky53 => exact Or.inl ⟨by rfl, by intro wSw hSw; (try dsimp only at hSw); go_simp; try with_reducible rfl⟩
        try simp only [Act.put, List.setIfInBounds_toArray, List.set_cons_zero, List.set_cons_succ]
        refine wpAnyH_take (i := 25) (oi := ?tko54) (v := ?tkv54) ?tkh54 (by kernel_rfl) (by kernel_rfl) (by kernel_rfl) ?tkq54 ?tky54 hHeld ?tkr54
        case tkh54 => (simp only [List.getElem?_toArray, List.getElem?_cons_succ, List.getElem?_cons_zero]; rfl)
        case tkq54 => exact fun _ _ _ h => h
        case tky54 => exact Or.inl ⟨by rfl, by intro wSw hSw; (try dsimp only at hSw); go_simp; try with_reducible rfl⟩
        try simp only [Act.put, List.setIfInBounds_toArray, List.set_cons_zero, List.set_cons_succ]
        refine wpAnyH_take (i := 26) (oi := ?tko55) (v := ?tkv55) ?tkh55 (by kernel_rfl) (by kernel_rfl) (by kernel_rfl) ?tkq55 ?tky55 hHeld ?tkr55
        case tkh55 => (simp only [List.getElem?_toArray, List.getElem?_cons_succ, List.getElem?_cons_zero]; rfl)
        case tkq55 => exact fun _ _ _ h => h
        case tky55 => exact Or.inl ⟨by rfl, by intro wSw hSw; (try dsimp only at hSw); go_simp; try with_reducible rfl⟩
        try simp only [Act.put, List.setIfInBounds_toArray, List.set_cons_zero, List.set_cons_succ]
        refine wpAnyH_ready (rs := [27]) (by kernel_rfl) (by simp) ?_
        refine AllReadyH.cons (o := ?tko56) ?tkh56 (fun Kt56 hKt56 => ?_) AllReadyH.nil
        case tkh56 => (simp only [List.getElem?_toArray, List.getElem?_cons_succ, List.getElem?_cons_zero]; rfl)
        go_simp
        (go_at_call 40; refine (HF.out _ (HBW.out _ hB3)).mono ?_; rintro e w4 ⟨rfl, hb4⟩; have hB4 := hB3.trans (hb4.mono hB3.size))
        refine hKt56.out _ _ ?_ (fun hHt56 => ?_)
        · (exact HALL.out _ hB4)
        clear hKt56 Kt56 hHeld
        have hHeld := hHt56
        clear hHt56
        try simp only [Act.put, List.setIfInBounds_toArray, List.set_cons_zero, List.set_cons_succ]
        refine wpAnyH_take (i := 28) (oi := ?tko57) (v := ?tkv57) ?tkh57 (by kernel_rfl) (by kernel_rfl) (by kernel_rfl) ?tkq57 ?tky57 hHeld ?tkr57
        case tkh57 => (simp only [List.getElem?_toArray, List.getElem?_cons_succ, List.getElem?_cons_zero]; rfl)
        case tkq57 => exact fun _ _ _ h => h
        case tky57 => exact Or.inl ⟨by rfl, by intro wSw hSw; (try dsimp only at hSw); go_simp; try with_reducible rfl⟩
        try simp only [Act.put, List.setIfInBounds_toArray, List.set_cons_zero, List.set_cons_succ]
        refine wpAnyH_take (i := 29) (oi := ?tko58) (v := ?tkv58) ?tkh58 (by kernel_rfl) (by kernel_rfl) (by kernel_rfl) ?tkq58 ?tky58 hHeld ?tkr58
        case tkh58 => (simp only [List.getElem?_toArray, List.getElem?_cons_succ, List.getElem?_cons_zero]; rfl)
        case tkq58 => exact fun _ _ _ h => h
        case tky58 => exact Or.inl ⟨by rfl, by intro wSw hSw; (try dsimp only at hSw); go_simp; try with_reducible rfl⟩
        try simp only [Act.put, List.setIfInBounds_toArray, List.set_cons_zero, List.set_cons_succ]
        refine wpAnyH_done (by kernel_rfl) ?_ _
        go_wp2
        go_ret
        exact ⟨by simp, HBW.out _ hB4⟩
      · have hle' : decide ((ne : Int) ≤ (me : Int)) = false := by simp; omega
        rw [hgt hle]
        clear hF hgt
        go_enter Try.func24, Try.ntmps24
        go_wp2
        refine wp_region_held_drew (S := (fun W => W.cell? ⟨w.heap.size, 0, none⟩ = some (.slice NA nn nc) ∧ W.cell? ⟨w.heap.size, 1, none⟩ = some (.slice EA ne ec) ∧ W.cell? ⟨w.heap.size + 1, 0, none⟩ = some (.slice NB mn mc) ∧ W.cell? ⟨w.heap.size + 1, 1, none⟩ = some (.slice EB me mk) ∧ Below (boxT2 w NA nn nc EA ne ec NB mn mc EB me mk).heap.size (boxT2 w NA nn nc EA ne ec NB mn mc EB me mk) W)) (by kernel_rfl) (HALL.out _ (Below.refl _ _).drew) (fun hHeld => ?_)
        refine wpAnyH_take (i := 0) (oi := ?tko59) (v := ?tkv59) ?tkh59 (by kernel_rfl) (by kernel_rfl) (by kernel_rfl) ?tkq59 ?tky59 hHeld ?tkr59
        case tkh59 => (simp only [List.getElem?_toArray, List.getElem?_cons_zero]; rfl)
        case tkq59 => exact fun _ _ _ h => h
        case tky59 => exact Or.inl ⟨by rfl, by intro wSw hSw; (try dsimp only at hSw); go_simp; try with_reducible rfl⟩
        try simp only [Act.put, List.setIfInBounds_toArray, List.set_cons_zero, List.set_cons_succ]
        refine wpAnyH_ready (rs := [1]) (by kernel_rfl) (by simp) ?_
        refine AllReadyH.cons (o := ?tko60) ?tkh60 (fun Kt60 hKt60 => ?_) AllReadyH.nil
        case tkh60 => (simp only [List.getElem?_toArray, List.getElem?_cons_succ, List.getElem?_cons_zero]; rfl)
        go_simp
        (go_at_call 16; refine (HM2.out _ (HBW.out _ (Below.refl _ _).drew)).mono ?_; rintro e w1 ⟨rfl, hb1⟩; have hB1 := undrew1 hb1)
        refine hKt60.out _ _ ?_ (fun hHt60 => ?_)
        · (exact HALL.out _ hB1)
        clear hKt60 Kt60 hHeld
        have hHeld := hHt60
        clear hHt60
        try simp only [Act.put, List.setIfInBounds_toArray, List.set_cons_zero, List.set_cons_succ]
        refine wpAnyH_take (i := 2) (oi := ?tko61) (v := ?tkv61) ?tkh61 (by kernel_rfl) (by kernel_rfl) (by kernel_rfl) ?tkq61 ?tky61 hHeld ?tkr61
        case tkh61 => (simp only [List.getElem?_toArray, List.getElem?_cons_succ, List.getElem?_cons_zero]; rfl)
        case tkq61 => exact fun _ _ _ h => h
        case tky61 => exact Or.inl ⟨by rfl, by intro wSw hSw; (try dsimp only at hSw); go_simp; try with_reducible rfl⟩
        try simp only [Act.put, List.setIfInBounds_toArray, List.set_cons_zero, List.set_cons_succ]
        refine wpAnyH_take (i := 3) (oi := ?tko62) (v := ?tkv62) ?tkh62 (by kernel_rfl) (by kernel_rfl) (by kernel_rfl) ?tkq62 ?tky62 hHeld ?tkr62
        case tkh62 => (simp only [List.getElem?_toArray, List.getElem?_cons_succ, List.getElem?_cons_zero]; rfl)
        case tkq62 => exact fun _ _ _ h => h
        case tky62 => exact Or.inl ⟨by rfl, by intro wSw hSw; (try dsimp only at hSw); go_simp; try with_reducible rfl⟩
        try simp only [Act.put, List.setIfInBounds_toArray, List.set_cons_zero, List.set_cons_succ]
        refine wpAnyH_take (i := 4) (oi := ?tko63) (v := ?tkv63) ?tkh63 (by kernel_rfl) (by kernel_rfl) (by kernel_rfl) ?tkq63 ?tky63 hHeld ?tkr63
        case tkh63 => (simp only [List.getElem?_toArray, List.getElem?_cons_succ, List.getElem?_cons_zero]; rfl)
        case tkq63 => exact fun _ _ _ h => h
        case tky63 => exact Or.inl ⟨by rfl, by intro wSw hSw; (try dsimp only at hSw); go_simp; try with_reducible rfl⟩
        try simp only [Act.put, List.setIfInBounds_toArray, List.set_cons_zero, List.set_cons_succ]
        refine wpAnyH_take (i := 5) (oi := ?tko64) (v := ?tkv64) ?tkh64 (by kernel_rfl) (by kernel_rfl) (by kernel_rfl) ?tkq64 ?tky64 hHeld ?tkr64
        case tkh64 => (simp only [List.getElem?_toArray, List.getElem?_cons_succ, List.getElem?_cons_zero]; rfl)
        case tkq64 => exact fun _ _ _ h => h
        case tky64 => exact Or.inl ⟨by rfl, by intro wSw hSw; (try dsimp only at hSw); go_simp; try with_reducible rfl⟩
        try simp only [Act.put, List.setIfInBounds_toArray, List.set_cons_zero, List.set_cons_succ]
        refine wpAnyH_take (i := 6) (oi := ?tko65) (v := ?tkv65) ?tkh65 (by kernel_rfl) (by kernel_rfl) (by kernel_rfl) ?tkq65 ?tky65 hHeld ?tkr65
        case tkh65 => (simp only [List.getElem?_toArray, List.getElem?_cons_succ, List.getElem?_cons_zero]; rfl)
        case tkq65 => exact fun _ _ _ h => h
        case tky65 => exact Or.inl ⟨by rfl, by intro wSw hSw; (try dsimp only at hSw); go_simp; try with_reducible rfl⟩
        try simp only [Act.put, List.setIfInBounds_toArray, List.set_cons_zero, List.set_cons_succ]
        refine wpAnyH_ready (rs := [7]) (by kernel_rfl) (by simp) ?_
        refine AllReadyH.cons (o := ?tko66) ?tkh66 (fun Kt66 hKt66 => ?_) AllReadyH.nil
        case tkh66 => (simp only [List.getElem?_toArray, List.getElem?_cons_succ, List.getElem?_cons_zero]; rfl)
        go_simp
        (go_at_call 38; refine (HE.out _ (HBW.out _ hB1)).mono ?_; rintro e w' ⟨rfl, z, rfl⟩; have hB3 := below_drewN hB1 z)
        refine hKt66.out _ _ ?_ (fun hHt66 => ?_)
        · (exact HALL.out _ hB3)
        clear hKt66 Kt66 hHeld
        have hHeld := hHt66
        clear hHt66
        try simp only [Act.put, List.setIfInBounds_toArray, List.set_cons_zero, List.set_cons_succ]
        refine wpAnyH_take (i := 8) (oi := ?tko67) (v := ?tkv67) ?tkh67 (by kernel_rfl) (by kernel_rfl) (by kernel_rfl) ?tkq67 ?tky67 hHeld ?tkr67
        case tkh67 => (simp only [List.getElem?_toArray, List.getElem?_cons_succ, List.getElem?_cons_zero]; rfl)
        case tkq67 => exact fun _ _ _ h => h
        case tky67 => exact Or.inl ⟨by rfl, by intro wSw hSw; (try dsimp only at hSw); go_simp; try with_reducible rfl⟩
        try simp only [Act.put, List.setIfInBounds_toArray, List.set_cons_zero, List.set_cons_succ]
        refine wpAnyH_take (i := 9) (oi := ?tko68) (v := ?tkv68) ?tkh68 (by kernel_rfl) (by kernel_rfl) (by kernel_rfl) ?tkq68 ?tky68 hHeld ?tkr68
        case tkh68 => (simp only [List.getElem?_toArray, List.getElem?_cons_succ, List.getElem?_cons_zero]; rfl)
        case tkq68 => exact fun _ _ _ h => h
        case tky68 => exact Or.inl ⟨by rfl, by intro wSw hSw; (try dsimp only at hSw); go_simp; try with_reducible rfl⟩
        try simp only [Act.put, List.setIfInBounds_toArray, List.set_cons_zero, List.set_cons_succ]
        refine wpAnyH_take (i := 10) (oi := ?tko69) (v := ?tkv69) ?tkh69 (by kernel_rfl) (by kernel_rfl) (by kernel_rfl) ?tkq69 ?tky69 hHeld ?tkr69
        case tkh69 => (simp only [List.getElem?_toArray, List.getElem?_cons_succ, List.getElem?_cons_zero]; rfl)
        case tkq69 => exact fun _ _ _ h => h
        case tky69 => exact Or.inl ⟨by rfl, by intro wSw hSw; (try dsimp only at hSw); go_simp; try with_reducible rfl⟩
        try simp only [Act.put, List.setIfInBounds_toArray, List.set_cons_zero, List.set_cons_succ]
        refine wpAnyH_take (i := 11) (oi := ?tko70) (v := ?tkv70) ?tkh70 (by kernel_rfl) (by kernel_rfl) (by kernel_rfl) ?tkq70 ?tky70 hHeld ?tkr70
        case tkh70 => (simp only [List.getElem?_toArray, List.getElem?_cons_succ, List.getElem?_cons_zero]; rfl)
        case tkq70 => exact fun _ _ _ h => h
        case tky70 => exact Or.inl ⟨by rfl, by intro wSw hSw; (try dsimp only at hSw); go_simp; try with_reducible rfl⟩
        try simp only [Act.put, List.setIfInBounds_toArray, List.set_cons_zero, List.set_cons_succ]
        refine wpAnyH_take (i := 12) (oi := ?tko71) (v := ?tkv71) ?tkh71 (by kernel_rfl) (by kernel_rfl) (by kernel_rfl) ?tkq71 ?tky71 hHeld ?tkr71
        case tkh71 => (simp only [List.getElem?_toArray, List.getElem?_cons_succ, List.getElem?_cons_zero]; rfl)
        case tkq71 => exact fun _ _ _ h => h
        case tky71 => exact Or.inl ⟨by rfl, by intro wSw hSw; (try dsimp only at hSw); go_simp; try with_reducible rfl⟩
        try simp only [Act.put, List.setIfInBounds_toArray, List.set_cons_zero, List.set_cons_succ]
        refine wpAnyH_take (i := 13) (oi := ?tko72) (v := ?tkv72) ?tkh72 (by kernel_rfl) (by kernel_rfl) (by kernel_rfl) ?tkq72 ?tky72 hHeld ?tkr72
        case tkh72 => (simp only [List.getElem?_toArray, List.getElem?_cons_succ, List.getElem?_cons_zero]; rfl)
        case tkq72 => exact fun _ _ _ h => h
        case tky72 => exact Or.inl ⟨by rfl, by intro wSw hSw; (try dsimp only at hSw); go_simp; try with_reducible rfl⟩
        try simp only [Act.put, List.setIfInBounds_toArray, List.set_cons_zero, List.set_cons_succ]
        refine wpAnyH_take (i := 14) (oi := ?tko73) (v := ?tkv73) ?tkh73 (by kernel_rfl) (by kernel_rfl) (by kernel_rfl) ?tkq73 ?tky73 hHeld ?tkr73
        case tkh73 => (simp only [List.getElem?_toArray, List.getElem?_cons_succ, List.getElem?_cons_zero]; rfl)
        case tkq73 => exact fun _ _ _ h => h
        case tky73 => exact Or.inl ⟨by rfl, by intro wSw hSw; (try dsimp only at hSw); go_simp; try with_reducible rfl⟩
        try simp only [Act.put, List.setIfInBounds_toArray, List.set_cons_zero, List.set_cons_succ]
        refine wpAnyH_take (i := 15) (oi := ?tko74) (v := ?tkv74) ?tkh74 (by kernel_rfl) (by kernel_rfl) (by kernel_rfl) ?tkq74 ?tky74 hHeld ?tkr74
        case tkh74 => (simp only [List.getElem?_toArray, List.getElem?_cons_succ, List.getElem?_cons_zero]; rfl)
        case tkq74 => exact fun _ _ _ h => h
        case tky74 => exact Or.inl ⟨by rfl, by intro wSw hSw; (try dsimp only at hSw); go_simp; try with_reducible rfl⟩
        try simp only [Act.put, List.setIfInBounds_toArray, List.set_cons_zero, List.set_cons_succ]
        refine wpAnyH_take (i := 16) (oi := ?tko75) (v := ?tkv75) ?tkh75 (by kernel_rfl) (by kernel_rfl) (by kernel_rfl) ?tkq75 ?tky75 hHeld ?tkr75
        case tkh75 => (simp only [List.getElem?_toArray, List.getElem?_cons_succ, List.getElem?_cons_zero]; rfl)
        case tkq75 => exact fun _ _ _ h => h
        case tky75 => exact Or.inl ⟨by rfl, by intro wSw hSw; (try dsimp only at hSw); go_simp; try with_reducible rfl⟩
        try simp only [Act.put, List.setIfInBounds_toArray, List.set_cons_zero, List.set_cons_succ]
        refine wpAnyH_take (i := 17) (oi := ?tko76) (v := ?tkv76) ?tkh76 (by kernel_rfl) (by kernel_rfl) (by kernel_rfl) ?tkq76 ?tky76 hHeld ?tkr76
        case tkh76 => (simp only [List.getElem?_toArray, List.getElem?_cons_succ, List.getElem?_cons_zero]; rfl)
        case tkq76 => exact fun _ _ _ h => h
        case tky76 => exact Or.inl ⟨by rfl, by intro wSw hSw; (try dsimp only at hSw); go_simp; try with_reducible rfl⟩
        try simp only [Act.put, List.setIfInBounds_toArray, List.set_cons_zero, List.set_cons_succ]
        refine wpAnyH_take (i := 18) (oi := ?tko77) (v := ?tkv77) ?tkh77 (by kernel_rfl) (by kernel_rfl) (by kernel_rfl) ?tkq77 ?tky77 hHeld ?tkr77
        case tkh77 => (simp only [List.getElem?_toArray, List.getElem?_cons_succ, List.getElem?_cons_zero]; rfl)
        case tkq77 => exact fun _ _ _ h => h
        case tky77 => exact Or.inl ⟨by rfl, by intro wSw hSw; (try dsimp only at hSw); go_simp; try with_reducible rfl⟩
        try simp only [Act.put, List.setIfInBounds_toArray, List.set_cons_zero, List.set_cons_succ]
        refine Skips.skips (by kernel_rfl) (fun _ _ _ _ _ h => h) hHeld [19, 20, 21, 22, 23, 24, 25, 26, 27] _ 2 _ _ (by kernel_rfl) ?tkk78 ?tkr78
        case tkk78 => kernel_rfl
        simp only [Skips.skipAct, Skips.skipListed, List.getElem?_toArray, List.getElem?_cons_succ, List.getElem?_cons_zero, Act.put, List.setIfInBounds_toArray, List.set_cons_zero, List.set_cons_succ]
        refine wpAnyH_take (i := 28) (oi := ?tko79) (v := ?tkv79) ?tkh79 (by kernel_rfl) (by kernel_rfl) (by kernel_rfl) ?tkq79 ?tky79 hHeld ?tkr79
        case tkh79 => (simp only [List.getElem?_toArray, List.getElem?_cons_succ, List.getElem?_cons_zero]; rfl)
        case tkq79 => exact fun _ _ _ h => h
        case tky79 => exact Or.inl ⟨by rfl, by intro wSw hSw; (try dsimp only at hSw); go_simp; try with_reducible rfl⟩
        try simp only [Act.put, List.setIfInBounds_toArray, List.set_cons_zero, List.set_cons_succ]
        refine wpAnyH_take (i := 29) (oi := ?tko80) (v := ?tkv80) ?tkh80 (by kernel_rfl) (by kernel_rfl) (by kernel_rfl) ?tkq80 ?tky80 hHeld ?tkr80
        case tkh80 => (simp only [List.getElem?_toArray, List.getElem?_cons_succ, List.getElem?_cons_zero]; rfl)
        case tkq80 => exact fun _ _ _ h => h
        case tky80 => exact Or.inl ⟨by rfl, by intro wSw hSw; (try dsimp only at hSw); go_simp; try with_reducible rfl⟩
        try simp only [Act.put, List.setIfInBounds_toArray, List.set_cons_zero, List.set_cons_succ]
        refine wpAnyH_done (by kernel_rfl) ?_ _
        go_wp2
        go_ret
        exact ⟨rfl, HBW.out _ hB3⟩
end Go.Proofs.Ytlkfdnbgplkiiaa.Trace
