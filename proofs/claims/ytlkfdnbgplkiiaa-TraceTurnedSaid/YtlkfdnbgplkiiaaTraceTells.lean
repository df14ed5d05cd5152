/-
  The walks of the law's great and tells (stage 8). Written by wip/tools/gentells8.py. By an AI agent.
-/
import Derived.Test.YtlkfdnbgplkiiaaTraceLand2
import Derived.Test.YtlkfdnbgplkiiaaTraceLand4
import Derived.Test.YtlkfdnbgplkiiaaSkips
namespace Go.Proofs.Ytlkfdnbgplkiiaa.Trace
open Go.RowKit Go.Proofs.Ytlkfdnbgplkiiaa.Ints Go.Proofs.Ytlkfdnbgplkiiaa.Mem

def greatT (t : Tr) : Bool := decide (200 < t.names.length ∨ 200 < t.events.length ∨ ∃ e ∈ t.events, 200 < e.ids.length)
def greatN (t : Tr) : Int := if greatT t then 1 else 0
theorem great_one {t : Tr} (h : greatT t = true) : greatN t = 1 := by unfold greatN; rw [h]; rfl
theorem great_not {t : Tr} (h : greatT t = false) : greatN t = 0 := by unfold greatN; rw [h]; rfl
theorem great_small {t : Tr} (h : greatT t = false) : TrSmall t ∧ t.names.length ≤ 200 ∧ t.events.length ≤ 200 ∧ ∀ e ∈ t.events, e.ids.length ≤ 200 := by
  have h1 := of_decide_eq_false h
  have h2 : t.names.length ≤ 200 := Nat.le_of_not_lt fun e => h1 (.inl e)
  have h3 : t.events.length ≤ 200 := Nat.le_of_not_lt fun e => h1 (.inr (.inl e))
  have h4 : ∀ e ∈ t.events, e.ids.length ≤ 200 := fun e he => Nat.le_of_not_lt fun h => h1 (.inr (.inr ⟨e, he, h⟩))
  exact ⟨⟨by omega, by omega, fun e he => Nat.le_trans (h4 e he) (by decide)⟩, h2, h3, h4⟩
theorem getD_mem {l : List Ev} {k : Nat} (h : k < l.length) : l.getD k noEv ∈ l := by
  have : l.getD k noEv = l[k] := by simp [List.getD, h]
  rw [this]
  exact List.getElem_mem h

set_option maxHeartbeats 4000000 in
set_option maxRecDepth 100000 in
theorem lawGreat (NA : Option Addr) (nn nc : Nat) (EA : Option Addr) (ne ec : Nat) (t : Tr) (w : World) (h : TrOk Any w NA nn nc EA ne ec t) :
    Calls Try.prog 8 #[.agg #[.slice NA nn nc, .slice EA ne ec]] w fun e w' => e = .returned (.int .i64 (greatN t)) ∧ Below w.heap.size w w' := by
  have hm : maxLen = 9223372036854775807 := rfl
  have hni : (nn : Int) ≤ 9223372036854775807 := by have := h.ncap; omega
  have hei : (ne : Int) ≤ 9223372036854775807 := by have := h.ecap; omega
  have HD := Lib.hid h
  by_cases h1 : 200 < nn
  · have HR := Lib.hid (show greatN t = 1 from great_one <| decide_eq_true (.inl (by rw [h.nlen]; exact h1)))
    have h1' : decide ((nn : Int) > 200) = true := by simp; omega
    clear h h1 hm
    go_enter Try.func8, Try.ntmps8
    go_wp2
    go_ret
    exact ⟨by rw [HR.out]; rfl, (Below.refl _ _).alloc (Nat.le_refl _) _⟩
  · have h1' : decide ((nn : Int) > 200) = false := by simp; omega
    by_cases h2 : 200 < ne
    · have HR := Lib.hid (show greatN t = 1 from great_one <| decide_eq_true (.inr (.inl (by rw [h.elen]; exact h2))))
      have h2' : decide ((ne : Int) > 200) = true := by simp; omega
      clear h h1 h2 hm
      go_enter Try.func8, Try.ntmps8
      go_wp2
      go_ret
      exact ⟨by rw [HR.out]; rfl, (Below.refl _ _).alloc (Nat.le_refl _) _⟩
    · have h2' : decide ((ne : Int) > 200) = false := by simp; omega
      have HN := Lib.hid (show t.names.length ≤ 200 by rw [h.nlen]; omega)
      have HE := Lib.hid (show t.events.length ≤ 200 by rw [h.elen]; omega)
      clear h h1 h2 hm
      go_enter Try.func8, Try.ntmps8
      go_wp2
      go_loopw [18] (fun i wr => ∃ k : Nat, k ≤ ne ∧ i = .int .i64 k ∧ Hid (∀ j, j < k → (t.events.getD j noEv).ids.length ≤ 200) ∧ Below (w.heap.size + 1) (boxT w NA nn nc EA ne ec) wr) (fun i _ => ne - (intOf i).toNat)
      case atStart => exact ⟨0, Nat.zero_le _, rfl, fun j hj => absurd hj (by omega), Below.refl _ _⟩
      case round =>
        obtain ⟨k, hk, rfl, HG, hB⟩ := hrel
        have HB := Lib.hid hB
        have HBS : w.heap.size + 1 ≤ wr.heap.size := by have := hB.size; simpa [boxT] using this
        clear hB
        by_cases hkn : k < ne
        · have hkn' : (k : Int) < (ne : Int) := by omega
          have hk0 : (0 : Int) ≤ (k : Int) := by omega
          have HW := HD.out.below (boxT_below HB.out)
          have hlen : k < t.events.length := by rw [HW.elen]; exact hkn
          obtain ⟨b, off, K, c, e, x0, x1, hX⟩ := HW.evs.kids hlen
          have hmem := getD_mem hlen
          obtain ⟨ev, hev⟩ : ∃ ev, t.events.getD k noEv = ev := ⟨_, rfl⟩
          rw [hev] at x0 x1 hX hmem
          obtain ⟨q, hq⟩ : ∃ q, ev.ids.length = q := ⟨_, rfl⟩
          rw [hq] at x1
          subst e
          have hqm : (q : Int) ≤ 9223372036854775807 := by have h1 := hX.2.2.1; have h2 := hX.2.2.2; have : maxLen = 9223372036854775807 := rfl; omega
          by_cases h3 : 200 < q
          · have HR := Lib.hid (show greatN t = 1 from great_one <| decide_eq_true (.inr (.inr ⟨ev, hmem, by rw [hq]; exact h3⟩)))
            have h3' : decide ((q : Int) > 200) = true := by simp; omega
            clear HW hlen hX hmem hev hq h3
            go_wp2
            go_ret
            exact ⟨by rw [HR.out]; rfl, (boxT_below HB.out).alloc (boxT_below HB.out).size _⟩
          · have HZ := Lib.hid (good_more HG.out (p := fun j => (t.events.getD j noEv).ids.length ≤ 200) (k := k) (by rw [hev, hq]; omega))
            have h3' : decide ((q : Int) > 200) = false := by simp; omega
            clear HW hlen hX hmem hev hq h3
            go_wp2
            go_roundw
            case rel => exact ⟨k + 1, by omega, by go_num, HZ, HB.out.alloc HBS _⟩
            case measure => simp [intOf]; omega
        · have hge : decide ((k : Int) < (ne : Int)) = false := by simp; omega
          have HR := Lib.hid (show greatN t = 0 from great_not <| decide_eq_false (by
            rintro (e | e | ⟨e, he, hl⟩)
            · have := HN.out; omega
            · have := HE.out; omega
            · obtain ⟨j, hj, rfl⟩ := List.getElem_of_mem he
              have h1 := HG.out j (by have := HD.out.elen; omega)
              have h2 : t.events.getD j noEv = t.events[j] := by simp [List.getD, hj]
              rw [h2] at h1
              omega))
          go_wp2
          go_ret
          exact ⟨by rw [HR.out]; rfl, boxT_below HB.out⟩

set_option maxHeartbeats 16000000 in
set_option maxRecDepth 100000 in
theorem lawTells (NA : Option Addr) (nn nc : Nat) (EA : Option Addr) (ne ec : Nat) (NB : Option Addr) (mn mc : Nat) (EB : Option Addr) (me mk : Nat) (t u : Tr) (i : Int) (s : ByteArray) (w : World)
    (h : TrOk Any w NA nn nc EA ne ec t) (k : TrOk Any w NB mn mc EB me mk u) (hs : TrSmall t) (_ks : TrSmall u) (hi : small64 i) :
    Calls Try.prog 14 #[.agg #[.slice NA nn nc, .slice EA ne ec], .agg #[.slice NB mn mc, .slice EB me mk], .int .i64 i, .string s] w fun e w' => e = .returned (.bool true) ∧ Below w.heap.size w w' := by
  have HBW := Lib.hid (fun W (hb : Below (boxT2 w NA nn nc EA ne ec NB mn mc EB me mk).heap.size (boxT2 w NA nn nc EA ne ec NB mn mc EB me mk) W) => boxT2_below (boxT2_call hb))
  have HALL := Lib.hid (fun W (hb : Below (boxT2 w NA nn nc EA ne ec NB mn mc EB me mk).heap.size (boxT2 w NA nn nc EA ne ec NB mn mc EB me mk) W) => (⟨(boxT2_all hb).1, (boxT2_all hb).2.1, (boxT2_all hb).2.2.1, (boxT2_all hb).2.2.2, hb⟩ :
    W.cell? ⟨w.heap.size, 0, none⟩ = some (.slice NA nn nc) ∧ W.cell? ⟨w.heap.size, 1, none⟩ = some (.slice EA ne ec) ∧ W.cell? ⟨w.heap.size + 1, 0, none⟩ = some (.slice NB mn mc) ∧ W.cell? ⟨w.heap.size + 1, 1, none⟩ = some (.slice EB me mk) ∧ Below (boxT2 w NA nn nc EA ne ec NB mn mc EB me mk).heap.size (boxT2 w NA nn nc EA ne ec NB mn mc EB me mk) W))
  have P1 := fun W (hb : Below w.heap.size w W) => landMay NA nn nc EA ne ec t W (h.below hb)
  have R1 := fun W (hb : Below w.heap.size w W) => refMay NA nn nc EA ne ec t W (h.below hb)
  have P2 := fun W (hb : Below w.heap.size w W) => landHolds NA nn nc EA ne ec t i s W (h.below hb) hi
  have R2 := fun W (hb : Below w.heap.size w W) => refHolds NA nn nc EA ne ec t i s W (h.below hb) hi
  have P3 := Lib.hid (fun W (hb : Below w.heap.size w W) => landCut NA nn nc EA ne ec t i W (h.below hb) hs hi)
  have R3 := Lib.hid (fun W (hb : Below w.heap.size w W) => refCut NA nn nc EA ne ec t i W (h.below hb) hi)
  have P4 := fun W (hb : Below w.heap.size w W) => landFront NA nn nc EA ne ec NB mn mc EB me mk t u W (h.below hb) (k.below hb)
  have R4 := fun W (hb : Below w.heap.size w W) => refFront NA nn nc EA ne ec NB mn mc EB me mk t u W (h.below hb) (k.below hb)
  have P5 := fun W (hb : Below w.heap.size w W) => landFront NB mn mc EB me mk NA nn nc EA ne ec u t W (k.below hb) (h.below hb)
  have R5 := fun W (hb : Below w.heap.size w W) => refFront NB mn mc EB me mk NA nn nc EA ne ec u t W (k.below hb) (h.below hb)
  have SM := Lib.hid (fun (N1 : Option Addr) (a1 b1 : Nat) (E1 : Option Addr) (c1 d1 : Nat) (N2 : Option Addr) (a2 b2 : Nat) (E2 : Option Addr) (c2 d2 : Nat) W (h1 : TrOk Any W N1 a1 b1 E1 c1 d1 (cutT t i)) (h2 : TrOk Any W N2 a2 b2 E2 c2 d2 (cutT t i)) => by
    have := refSameTrace N1 a1 b1 E1 c1 d1 N2 a2 b2 E2 c2 d2 (cutT t i) (cutT t i) W h1 h2
    rw [decide_eq_true rfl] at this
    exact this)
  obtain ⟨m1, e1⟩ : ∃ b, mayT t = b := ⟨_, rfl⟩
  obtain ⟨m2, e2⟩ : ∃ b, holdsT t i s.data.toList = b := ⟨_, rfl⟩
  obtain ⟨m4, e4⟩ : ∃ b, frontT t u = b := ⟨_, rfl⟩
  obtain ⟨m5, e5⟩ : ∃ b, frontT u t = b := ⟨_, rfl⟩
  rw [e1] at P1 R1
  rw [e2] at P2 R2
  rw [e4] at P4 R4
  rw [e5] at P5 R5
  have P1 := Lib.hid P1
  have R1 := Lib.hid R1
  have P2 := Lib.hid P2
  have R2 := Lib.hid R2
  have P4 := Lib.hid P4
  have R4 := Lib.hid R4
  have P5 := Lib.hid P5
  have R5 := Lib.hid R5
  clear h k hs hi e1 e2 e4 e5
  go_enter Try.func14, Try.ntmps14
  go_wp2
  refine wp_region_held_drew (S := (fun W => W.cell? ⟨w.heap.size, 0, none⟩ = some (.slice NA nn nc) ∧ W.cell? ⟨w.heap.size, 1, none⟩ = some (.slice EA ne ec) ∧ W.cell? ⟨w.heap.size + 1, 0, none⟩ = some (.slice NB mn mc) ∧ W.cell? ⟨w.heap.size + 1, 1, none⟩ = some (.slice EB me mk) ∧ Below (boxT2 w NA nn nc EA ne ec NB mn mc EB me mk).heap.size (boxT2 w NA nn nc EA ne ec NB mn mc EB me mk) W)) (by kernel_rfl) (HALL.out _ (Below.refl _ _).drew) (fun hHeld => ?_)
  refine wpAnyH_take (i := 0) (oi := ?tko1) (v := ?tkv1) ?tkh1 (by kernel_rfl) (by kernel_rfl) (by kernel_rfl) ?tkq1 ?tky1 hHeld ?tkr1
  case tkh1 => (simp only [List.getElem?_toArray, List.getElem?_cons_zero]; rfl)
  case tkq1 => exact fun _ _ _ h => h
  case tky1 => exact Or.inl ⟨by rfl, by intro wSw hSw; (try dsimp only at hSw); go_simp; try with_reducible rfl⟩
  try simp only [Act.put, List.setIfInBounds_toArray, List.set_cons_zero, List.set_cons_succ]
  refine wpAnyH_take (i := 2) (oi := ?tko2) (v := ?tkv2) ?tkh2 (by kernel_rfl) (by kernel_rfl) (by kernel_rfl) ?tkq2 ?tky2 hHeld ?tkr2
  case tkh2 => (simp only [List.getElem?_toArray, List.getElem?_cons_succ, List.getElem?_cons_zero]; rfl)
  case tkq2 => exact fun _ _ _ h => h
  case tky2 => exact Or.inl ⟨by rfl, by intro wSw hSw; (try dsimp only at hSw); go_simp; try with_reducible rfl⟩
  try simp only [Act.put, List.setIfInBounds_toArray, List.set_cons_zero, List.set_cons_succ]
  refine wpAnyH_ready (rs := [1]) (by kernel_rfl) (by simp) ?_
  refine AllReadyH.cons (o := ?tko3) ?tkh3 (fun Kt3 hKt3 => ?_) AllReadyH.nil
  case tkh3 => (simp only [List.getElem?_toArray, List.getElem?_cons_succ, List.getElem?_cons_zero]; rfl)
  go_simp
  (go_at_call 16; refine (P1.out _ (HBW.out _ ((Below.refl _ _).drew))).mono ?_; rintro e w1 ⟨rfl, hb1⟩; have hB1 := undrew1 hb1)
  refine hKt3.out _ _ ?_ (fun hHt3 => ?_)
  · (exact HALL.out _ hB1)
  clear hKt3 Kt3 hHeld
  have hHeld := hHt3
  clear hHt3
  try simp only [Act.put, List.setIfInBounds_toArray, List.set_cons_zero, List.set_cons_succ]
  refine wpAnyH_ready (rs := [3]) (by kernel_rfl) (by simp) ?_
  refine AllReadyH.cons (o := ?tko4) ?tkh4 (fun Kt4 hKt4 => ?_) AllReadyH.nil
  case tkh4 => (simp only [List.getElem?_toArray, List.getElem?_cons_succ, List.getElem?_cons_zero]; rfl)
  go_simp
  (go_at_call 28; refine (R1.out _ (HBW.out _ hB1)).mono ?_; rintro e w2 ⟨rfl, hb2⟩; have hB2 := hB1.trans (hb2.mono hB1.size))
  refine hKt4.out _ _ ?_ (fun hHt4 => ?_)
  · (exact HALL.out _ hB2)
  clear hKt4 Kt4 hHeld
  have hHeld := hHt4
  clear hHt4
  try simp only [Act.put, List.setIfInBounds_toArray, List.set_cons_zero, List.set_cons_succ]
  refine wpAnyH_take (i := 4) (oi := ?tko5) (v := ?tkv5) ?tkh5 (by kernel_rfl) (by kernel_rfl) (by kernel_rfl) ?tkq5 ?tky5 hHeld ?tkr5
  case tkh5 => (simp only [List.getElem?_toArray, List.getElem?_cons_succ, List.getElem?_cons_zero]; rfl)
  case tkq5 => exact fun _ _ _ h => h
  case tky5 => exact Or.inl ⟨by rfl, by intro wSw hSw; (try dsimp only at hSw); go_simp; try with_reducible rfl⟩
  try simp only [Act.put, List.setIfInBounds_toArray, List.set_cons_zero, List.set_cons_succ]
  refine wpAnyH_take (i := 5) (oi := ?tko6) (v := ?tkv6) ?tkh6 (by kernel_rfl) (by kernel_rfl) (by kernel_rfl) ?tkq6 ?tky6 hHeld ?tkr6
  case tkh6 => (simp only [List.getElem?_toArray, List.getElem?_cons_succ, List.getElem?_cons_zero]; rfl)
  case tkq6 => exact fun _ _ _ h => h
  case tky6 => exact Or.inl ⟨by rfl, by intro wSw hSw; (try dsimp only at hSw); go_simp; try with_reducible rfl⟩
  try simp only [Act.put, List.setIfInBounds_toArray, List.set_cons_zero, List.set_cons_succ]
  refine wpAnyH_take (i := 6) (oi := ?tko7) (v := ?tkv7) ?tkh7 (by kernel_rfl) (by kernel_rfl) (by kernel_rfl) ?tkq7 ?tky7 hHeld ?tkr7
  case tkh7 => (simp only [List.getElem?_toArray, List.getElem?_cons_succ, List.getElem?_cons_zero]; rfl)
  case tkq7 => exact fun _ _ _ h => h
  case tky7 => exact Or.inl ⟨by rfl, by intro wSw hSw; (try dsimp only at hSw); go_simp; try with_reducible rfl⟩
  try simp only [Act.put, List.setIfInBounds_toArray, List.set_cons_zero, List.set_cons_succ]
  refine wpAnyH_take (i := 7) (oi := ?tko8) (v := ?tkv8) ?tkh8 (by kernel_rfl) (by kernel_rfl) (by kernel_rfl) ?tkq8 ?tky8 hHeld ?tkr8
  case tkh8 => (simp only [List.getElem?_toArray, List.getElem?_cons_succ, List.getElem?_cons_zero]; rfl)
  case tkq8 => exact fun _ _ _ h => h
  case tky8 => exact Or.inl ⟨by rfl, by intro wSw hSw; (try dsimp only at hSw); go_simp; try with_reducible rfl⟩
  try simp only [Act.put, List.setIfInBounds_toArray, List.set_cons_zero, List.set_cons_succ]
  refine wpAnyH_take (i := 8) (oi := ?tko9) (v := ?tkv9) ?tkh9 (by kernel_rfl) (by kernel_rfl) (by kernel_rfl) ?tkq9 ?tky9 hHeld ?tkr9
  case tkh9 => (simp only [List.getElem?_toArray, List.getElem?_cons_succ, List.getElem?_cons_zero]; rfl)
  case tkq9 => exact fun _ _ _ h => h
  case tky9 => exact Or.inl ⟨by rfl, by intro wSw hSw; (try dsimp only at hSw); go_simp; try with_reducible rfl⟩
  try simp only [Act.put, List.setIfInBounds_toArray, List.set_cons_zero, List.set_cons_succ]
  refine wpAnyH_take (i := 10) (oi := ?tko10) (v := ?tkv10) ?tkh10 (by kernel_rfl) (by kernel_rfl) (by kernel_rfl) ?tkq10 ?tky10 hHeld ?tkr10
  case tkh10 => (simp only [List.getElem?_toArray, List.getElem?_cons_succ, List.getElem?_cons_zero]; rfl)
  case tkq10 => exact fun _ _ _ h => h
  case tky10 => exact Or.inl ⟨by rfl, by intro wSw hSw; (try dsimp only at hSw); go_simp; try with_reducible rfl⟩
  try simp only [Act.put, List.setIfInBounds_toArray, List.set_cons_zero, List.set_cons_succ]
  refine wpAnyH_take (i := 11) (oi := ?tko11) (v := ?tkv11) ?tkh11 (by kernel_rfl) (by kernel_rfl) (by kernel_rfl) ?tkq11 ?tky11 hHeld ?tkr11
  case tkh11 => (simp only [List.getElem?_toArray, List.getElem?_cons_succ, List.getElem?_cons_zero]; rfl)
  case tkq11 => exact fun _ _ _ h => h
  case tky11 => exact Or.inl ⟨by rfl, by intro wSw hSw; (try dsimp only at hSw); go_simp; try with_reducible rfl⟩
  try simp only [Act.put, List.setIfInBounds_toArray, List.set_cons_zero, List.set_cons_succ]
  refine wpAnyH_take (i := 12) (oi := ?tko12) (v := ?tkv12) ?tkh12 (by kernel_rfl) (by kernel_rfl) (by kernel_rfl) ?tkq12 ?tky12 hHeld ?tkr12
  case tkh12 => (simp only [List.getElem?_toArray, List.getElem?_cons_succ, List.getElem?_cons_zero]; rfl)
  case tkq12 => exact fun _ _ _ h => h
  case tky12 => exact Or.inl ⟨by rfl, by intro wSw hSw; (try dsimp only at hSw); go_simp; try with_reducible rfl⟩
  try simp only [Act.put, List.setIfInBounds_toArray, List.set_cons_zero, List.set_cons_succ]
  refine wpAnyH_ready (rs := [9]) (by kernel_rfl) (by simp) ?_
  refine AllReadyH.cons (o := ?tko13) ?tkh13 (fun Kt13 hKt13 => ?_) AllReadyH.nil
  case tkh13 => (simp only [List.getElem?_toArray, List.getElem?_cons_succ, List.getElem?_cons_zero]; rfl)
  go_simp
  (go_at_call 18; refine (P2.out _ (HBW.out _ hB2)).mono ?_; rintro e w3 ⟨rfl, hb3⟩; have hB3 := hB2.trans (hb3.mono hB2.size))
  refine hKt13.out _ _ ?_ (fun hHt13 => ?_)
  · (exact HALL.out _ hB3)
  clear hKt13 Kt13 hHeld
  have hHeld := hHt13
  clear hHt13
  try simp only [Act.put, List.setIfInBounds_toArray, List.set_cons_zero, List.set_cons_succ]
  refine wpAnyH_ready (rs := [13]) (by kernel_rfl) (by simp) ?_
  refine AllReadyH.cons (o := ?tko14) ?tkh14 (fun Kt14 hKt14 => ?_) AllReadyH.nil
  case tkh14 => (simp only [List.getElem?_toArray, List.getElem?_cons_succ, List.getElem?_cons_zero]; rfl)
  go_simp
  (go_at_call 29; refine (R2.out _ (HBW.out _ hB3)).mono ?_; rintro e w4 ⟨rfl, hb4⟩; have hB4 := hB3.trans (hb4.mono hB3.size))
  refine hKt14.out _ _ ?_ (fun hHt14 => ?_)
  · (exact HALL.out _ hB4)
  clear hKt14 Kt14 hHeld
  have hHeld := hHt14
  clear hHt14
  try simp only [Act.put, List.setIfInBounds_toArray, List.set_cons_zero, List.set_cons_succ]
  refine wpAnyH_take (i := 14) (oi := ?tko15) (v := ?tkv15) ?tkh15 (by kernel_rfl) (by kernel_rfl) (by kernel_rfl) ?tkq15 ?tky15 hHeld ?tkr15
  case tkh15 => (simp only [List.getElem?_toArray, List.getElem?_cons_succ, List.getElem?_cons_zero]; rfl)
  case tkq15 => exact fun _ _ _ h => h
  case tky15 => exact Or.inl ⟨by rfl, by intro wSw hSw; (try dsimp only at hSw); go_simp; try with_reducible rfl⟩
  try simp only [Act.put, List.setIfInBounds_toArray, List.set_cons_zero, List.set_cons_succ]
  refine wpAnyH_take (i := 15) (oi := ?tko16) (v := ?tkv16) ?tkh16 (by kernel_rfl) (by kernel_rfl) (by kernel_rfl) ?tkq16 ?tky16 hHeld ?tkr16
  case tkh16 => (simp only [List.getElem?_toArray, List.getElem?_cons_succ, List.getElem?_cons_zero]; rfl)
  case tkq16 => exact fun _ _ _ h => h
  case tky16 => exact Or.inl ⟨by rfl, by intro wSw hSw; (try dsimp only at hSw); go_simp; try with_reducible rfl⟩
  try simp only [Act.put, List.setIfInBounds_toArray, List.set_cons_zero, List.set_cons_succ]
  refine wpAnyH_take (i := 16) (oi := ?tko17) (v := ?tkv17) ?tkh17 (by kernel_rfl) (by kernel_rfl) (by kernel_rfl) ?tkq17 ?tky17 hHeld ?tkr17
  case tkh17 => (simp only [List.getElem?_toArray, List.getElem?_cons_succ, List.getElem?_cons_zero]; rfl)
  case tkq17 => exact fun _ _ _ h => h
  case tky17 => exact Or.inl ⟨by rfl, by intro wSw hSw; (try dsimp only at hSw); go_simp; try with_reducible rfl⟩
  try simp only [Act.put, List.setIfInBounds_toArray, List.set_cons_zero, List.set_cons_succ]
  refine wpAnyH_take (i := 17) (oi := ?tko18) (v := ?tkv18) ?tkh18 (by kernel_rfl) (by kernel_rfl) (by kernel_rfl) ?tkq18 ?tky18 hHeld ?tkr18
  case tkh18 => (simp only [List.getElem?_toArray, List.getElem?_cons_succ, List.getElem?_cons_zero]; rfl)
  case tkq18 => exact fun _ _ _ h => h
  case tky18 => exact Or.inl ⟨by rfl, by intro wSw hSw; (try dsimp only at hSw); go_simp; try with_reducible rfl⟩
  try simp only [Act.put, List.setIfInBounds_toArray, List.set_cons_zero, List.set_cons_succ]
  refine wpAnyH_take (i := 18) (oi := ?tko19) (v := ?tkv19) ?tkh19 (by kernel_rfl) (by kernel_rfl) (by kernel_rfl) ?tkq19 ?tky19 hHeld ?tkr19
  case tkh19 => (simp only [List.getElem?_toArray, List.getElem?_cons_succ, List.getElem?_cons_zero]; rfl)
  case tkq19 => exact fun _ _ _ h => h
  case tky19 => exact Or.inl ⟨by rfl, by intro wSw hSw; (try dsimp only at hSw); go_simp; try with_reducible rfl⟩
  try simp only [Act.put, List.setIfInBounds_toArray, List.set_cons_zero, List.set_cons_succ]
  refine wpAnyH_take (i := 20) (oi := ?tko20) (v := ?tkv20) ?tkh20 (by kernel_rfl) (by kernel_rfl) (by kernel_rfl) ?tkq20 ?tky20 hHeld ?tkr20
  case tkh20 => (simp only [List.getElem?_toArray, List.getElem?_cons_succ, List.getElem?_cons_zero]; rfl)
  case tkq20 => exact fun _ _ _ h => h
  case tky20 => exact Or.inl ⟨by rfl, by intro wSw hSw; (try dsimp only at hSw); go_simp; try with_reducible rfl⟩
  try simp only [Act.put, List.setIfInBounds_toArray, List.set_cons_zero, List.set_cons_succ]
  refine wpAnyH_take (i := 21) (oi := ?tko21) (v := ?tkv21) ?tkh21 (by kernel_rfl) (by kernel_rfl) (by kernel_rfl) ?tkq21 ?tky21 hHeld ?tkr21
  case tkh21 => (simp only [List.getElem?_toArray, List.getElem?_cons_succ, List.getElem?_cons_zero]; rfl)
  case tkq21 => exact fun _ _ _ h => h
  case tky21 => exact Or.inl ⟨by rfl, by intro wSw hSw; (try dsimp only at hSw); go_simp; try with_reducible rfl⟩
  try simp only [Act.put, List.setIfInBounds_toArray, List.set_cons_zero, List.set_cons_succ]
  refine wpAnyH_ready (rs := [19]) (by kernel_rfl) (by simp) ?_
  refine AllReadyH.cons (o := ?tko22) ?tkh22 (fun Kt22 hKt22 => ?_) AllReadyH.nil
  case tkh22 => (simp only [List.getElem?_toArray, List.getElem?_cons_succ, List.getElem?_cons_zero]; rfl)
  go_simp
  (go_at_call 17; refine (P3.out _ (HBW.out _ hB4)).mono ?_; rintro e w5 ⟨N5, a5, b5, E5, c5, d5, rfl, hT5, hb5⟩; have hB5 := hB4.trans (hb5.mono hB4.size))
  refine hKt22.out _ _ ?_ (fun hHt22 => ?_)
  · (exact HALL.out _ hB5)
  clear hKt22 Kt22 hHeld
  have hHeld := hHt22
  clear hHt22
  try simp only [Act.put, List.setIfInBounds_toArray, List.set_cons_zero, List.set_cons_succ]
  refine wpAnyH_ready (rs := [22]) (by kernel_rfl) (by simp) ?_
  refine AllReadyH.cons (o := ?tko23) ?tkh23 (fun Kt23 hKt23 => ?_) AllReadyH.nil
  case tkh23 => (simp only [List.getElem?_toArray, List.getElem?_cons_succ, List.getElem?_cons_zero]; rfl)
  go_simp
  (go_at_call 30; refine (R3.out _ (HBW.out _ hB5)).mono ?_; rintro e w6 ⟨N6, a6, b6, E6, c6, d6, rfl, hT6, hb6⟩; have hB6 := hB5.trans (hb6.mono hB5.size))
  refine hKt23.out _ _ ?_ (fun hHt23 => ?_)
  · (exact HALL.out _ hB6)
  clear hKt23 Kt23 hHeld
  have hHeld := hHt23
  clear hHt23
  try simp only [Act.put, List.setIfInBounds_toArray, List.set_cons_zero, List.set_cons_succ]
  refine wpAnyH_ready (rs := [23]) (by kernel_rfl) (by simp) ?_
  refine AllReadyH.cons (o := ?tko24) ?tkh24 (fun Kt24 hKt24 => ?_) AllReadyH.nil
  case tkh24 => (simp only [List.getElem?_toArray, List.getElem?_cons_succ, List.getElem?_cons_zero]; rfl)
  go_simp
  (go_at_call 23; refine (SM.out _ _ _ _ _ _ _ _ _ _ _ _ _ (hT5.below hb6) hT6).mono ?_; rintro e w7 ⟨rfl, hb7⟩; have hB7 := hB6.trans (hb7.mono hB6.size))
  refine hKt24.out _ _ ?_ (fun hHt24 => ?_)
  · (exact HALL.out _ hB7)
  clear hKt24 Kt24 hHeld
  have hHeld := hHt24
  clear hHt24
  try simp only [Act.put, List.setIfInBounds_toArray, List.set_cons_zero, List.set_cons_succ]
  refine wpAnyH_take (i := 24) (oi := ?tko25) (v := ?tkv25) ?tkh25 (by kernel_rfl) (by kernel_rfl) (by kernel_rfl) ?tkq25 ?tky25 hHeld ?tkr25
  case tkh25 => (simp only [List.getElem?_toArray, List.getElem?_cons_succ, List.getElem?_cons_zero]; rfl)
  case tkq25 => exact fun _ _ _ h => h
  case tky25 => exact Or.inl ⟨by rfl, by intro wSw hSw; (try dsimp only at hSw); go_simp; try with_reducible rfl⟩
  try simp only [Act.put, List.setIfInBounds_toArray, List.set_cons_zero, List.set_cons_succ]
  refine wpAnyH_take (i := 25) (oi := ?tko26) (v := ?tkv26) ?tkh26 (by kernel_rfl) (by kernel_rfl) (by kernel_rfl) ?tkq26 ?tky26 hHeld ?tkr26
  case tkh26 => (simp only [List.getElem?_toArray, List.getElem?_cons_succ, List.getElem?_cons_zero]; rfl)
  case tkq26 => exact fun _ _ _ h => h
  case tky26 => exact Or.inl ⟨by rfl, by intro wSw hSw; (try dsimp only at hSw); go_simp; try with_reducible rfl⟩
  try simp only [Act.put, List.setIfInBounds_toArray, List.set_cons_zero, List.set_cons_succ]
  refine wpAnyH_take (i := 26) (oi := ?tko27) (v := ?tkv27) ?tkh27 (by kernel_rfl) (by kernel_rfl) (by kernel_rfl) ?tkq27 ?tky27 hHeld ?tkr27
  case tkh27 => (simp only [List.getElem?_toArray, List.getElem?_cons_succ, List.getElem?_cons_zero]; rfl)
  case tkq27 => exact fun _ _ _ h => h
  case tky27 => exact Or.inl ⟨by rfl, by intro wSw hSw; (try dsimp only at hSw); go_simp; try with_reducible rfl⟩
  try simp only [Act.put, List.setIfInBounds_toArray, List.set_cons_zero, List.set_cons_succ]
  refine wpAnyH_take (i := 27) (oi := ?tko28) (v := ?tkv28) ?tkh28 (by kernel_rfl) (by kernel_rfl) (by kernel_rfl) ?tkq28 ?tky28 hHeld ?tkr28
  case tkh28 => (simp only [List.getElem?_toArray, List.getElem?_cons_succ, List.getElem?_cons_zero]; rfl)
  case tkq28 => exact fun _ _ _ h => h
  case tky28 => exact Or.inl ⟨by rfl, by intro wSw hSw; (try dsimp only at hSw); go_simp; try with_reducible rfl⟩
  try simp only [Act.put, List.setIfInBounds_toArray, List.set_cons_zero, List.set_cons_succ]
  refine wpAnyH_take (i := 29) (oi := ?tko29) (v := ?tkv29) ?tkh29 (by kernel_rfl) (by kernel_rfl) (by kernel_rfl) ?tkq29 ?tky29 hHeld ?tkr29
  case tkh29 => (simp only [List.getElem?_toArray, List.getElem?_cons_succ, List.getElem?_cons_zero]; rfl)
  case tkq29 => exact fun _ _ _ h => h
  case tky29 => exact Or.inl ⟨by rfl, by intro wSw hSw; (try dsimp only at hSw); go_simp; try with_reducible rfl⟩
  try simp only [Act.put, List.setIfInBounds_toArray, List.set_cons_zero, List.set_cons_succ]
  refine wpAnyH_take (i := 30) (oi := ?tko30) (v := ?tkv30) ?tkh30 (by kernel_rfl) (by kernel_rfl) (by kernel_rfl) ?tkq30 ?tky30 hHeld ?tkr30
  case tkh30 => (simp only [List.getElem?_toArray, List.getElem?_cons_succ, List.getElem?_cons_zero]; rfl)
  case tkq30 => exact fun _ _ _ h => h
  case tky30 => exact Or.inl ⟨by rfl, by intro wSw hSw; (try dsimp only at hSw); go_simp; try with_reducible rfl⟩
  try simp only [Act.put, List.setIfInBounds_toArray, List.set_cons_zero, List.set_cons_succ]
  refine wpAnyH_ready (rs := [28]) (by kernel_rfl) (by simp) ?_
  refine AllReadyH.cons (o := ?tko31) ?tkh31 (fun Kt31 hKt31 => ?_) AllReadyH.nil
  case tkh31 => (simp only [List.getElem?_toArray, List.getElem?_cons_succ, List.getElem?_cons_zero]; rfl)
  go_simp
  (go_at_call 24; refine (P4.out _ (HBW.out _ hB7)).mono ?_; rintro e w8 ⟨rfl, hb8⟩; have hB8 := hB7.trans (hb8.mono hB7.size))
  refine hKt31.out _ _ ?_ (fun hHt31 => ?_)
  · (exact HALL.out _ hB8)
  clear hKt31 Kt31 hHeld
  have hHeld := hHt31
  clear hHt31
  try simp only [Act.put, List.setIfInBounds_toArray, List.set_cons_zero, List.set_cons_succ]
  refine wpAnyH_ready (rs := [31]) (by kernel_rfl) (by simp) ?_
  refine AllReadyH.cons (o := ?tko32) ?tkh32 (fun Kt32 hKt32 => ?_) AllReadyH.nil
  case tkh32 => (simp only [List.getElem?_toArray, List.getElem?_cons_succ, List.getElem?_cons_zero]; rfl)
  go_simp
  (go_at_call 31; refine (R4.out _ (HBW.out _ hB8)).mono ?_; rintro e w9 ⟨rfl, hb9⟩; have hB9 := hB8.trans (hb9.mono hB8.size))
  refine hKt32.out _ _ ?_ (fun hHt32 => ?_)
  · (exact HALL.out _ hB9)
  clear hKt32 Kt32 hHeld
  have hHeld := hHt32
  clear hHt32
  try simp only [Act.put, List.setIfInBounds_toArray, List.set_cons_zero, List.set_cons_succ]
  refine wpAnyH_take (i := 32) (oi := ?tko33) (v := ?tkv33) ?tkh33 (by kernel_rfl) (by kernel_rfl) (by kernel_rfl) ?tkq33 ?tky33 hHeld ?tkr33
  case tkh33 => (simp only [List.getElem?_toArray, List.getElem?_cons_succ, List.getElem?_cons_zero]; rfl)
  case tkq33 => exact fun _ _ _ h => h
  case tky33 => exact Or.inl ⟨by rfl, by intro wSw hSw; (try dsimp only at hSw); go_simp; try with_reducible rfl⟩
  try simp only [Act.put, List.setIfInBounds_toArray, List.set_cons_zero, List.set_cons_succ]
  refine wpAnyH_take (i := 33) (oi := ?tko34) (v := ?tkv34) ?tkh34 (by kernel_rfl) (by kernel_rfl) (by kernel_rfl) ?tkq34 ?tky34 hHeld ?tkr34
  case tkh34 => (simp only [List.getElem?_toArray, List.getElem?_cons_succ, List.getElem?_cons_zero]; rfl)
  case tkq34 => exact fun _ _ _ h => h
  case tky34 => exact Or.inl ⟨by rfl, by intro wSw hSw; (try dsimp only at hSw); go_simp; try with_reducible rfl⟩
  try simp only [Act.put, List.setIfInBounds_toArray, List.set_cons_zero, List.set_cons_succ]
  refine wpAnyH_take (i := 34) (oi := ?tko35) (v := ?tkv35) ?tkh35 (by kernel_rfl) (by kernel_rfl) (by kernel_rfl) ?tkq35 ?tky35 hHeld ?tkr35
  case tkh35 => (simp only [List.getElem?_toArray, List.getElem?_cons_succ, List.getElem?_cons_zero]; rfl)
  case tkq35 => exact fun _ _ _ h => h
  case tky35 => exact Or.inl ⟨by rfl, by intro wSw hSw; (try dsimp only at hSw); go_simp; try with_reducible rfl⟩
  try simp only [Act.put, List.setIfInBounds_toArray, List.set_cons_zero, List.set_cons_succ]
  refine wpAnyH_take (i := 35) (oi := ?tko36) (v := ?tkv36) ?tkh36 (by kernel_rfl) (by kernel_rfl) (by kernel_rfl) ?tkq36 ?tky36 hHeld ?tkr36
  case tkh36 => (simp only [List.getElem?_toArray, List.getElem?_cons_succ, List.getElem?_cons_zero]; rfl)
  case tkq36 => exact fun _ _ _ h => h
  case tky36 => exact Or.inl ⟨by rfl, by intro wSw hSw; (try dsimp only at hSw); go_simp; try with_reducible rfl⟩
  try simp only [Act.put, List.setIfInBounds_toArray, List.set_cons_zero, List.set_cons_succ]
  refine wpAnyH_take (i := 36) (oi := ?tko37) (v := ?tkv37) ?tkh37 (by kernel_rfl) (by kernel_rfl) (by kernel_rfl) ?tkq37 ?tky37 hHeld ?tkr37
  case tkh37 => (simp only [List.getElem?_toArray, List.getElem?_cons_succ, List.getElem?_cons_zero]; rfl)
  case tkq37 => exact fun _ _ _ h => h
  case tky37 => exact Or.inl ⟨by rfl, by intro wSw hSw; (try dsimp only at hSw); go_simp; try with_reducible rfl⟩
  try simp only [Act.put, List.setIfInBounds_toArray, List.set_cons_zero, List.set_cons_succ]
  refine wpAnyH_take (i := 38) (oi := ?tko38) (v := ?tkv38) ?tkh38 (by kernel_rfl) (by kernel_rfl) (by kernel_rfl) ?tkq38 ?tky38 hHeld ?tkr38
  case tkh38 => (simp only [List.getElem?_toArray, List.getElem?_cons_succ, List.getElem?_cons_zero]; rfl)
  case tkq38 => exact fun _ _ _ h => h
  case tky38 => exact Or.inl ⟨by rfl, by intro wSw hSw; (try dsimp only at hSw); go_simp; try with_reducible rfl⟩
  try simp only [Act.put, List.setIfInBounds_toArray, List.set_cons_zero, List.set_cons_succ]
  refine wpAnyH_take (i := 39) (oi := ?tko39) (v := ?tkv39) ?tkh39 (by kernel_rfl) (by kernel_rfl) (by kernel_rfl) ?tkq39 ?tky39 hHeld ?tkr39
  case tkh39 => (simp only [List.getElem?_toArray, List.getElem?_cons_succ, List.getElem?_cons_zero]; rfl)
  case tkq39 => exact fun _ _ _ h => h
  case tky39 => exact Or.inl ⟨by rfl, by intro wSw hSw; (try dsimp only at hSw); go_simp; try with_reducible rfl⟩
  try simp only [Act.put, List.setIfInBounds_toArray, List.set_cons_zero, List.set_cons_succ]
  refine wpAnyH_ready (rs := [37]) (by kernel_rfl) (by simp) ?_
  refine AllReadyH.cons (o := ?tko40) ?tkh40 (fun Kt40 hKt40 => ?_) AllReadyH.nil
  case tkh40 => (simp only [List.getElem?_toArray, List.getElem?_cons_succ, List.getElem?_cons_zero]; rfl)
  go_simp
  (go_at_call 24; refine (P5.out _ (HBW.out _ hB9)).mono ?_; rintro e w10 ⟨rfl, hb10⟩; have hB10 := hB9.trans (hb10.mono hB9.size))
  refine hKt40.out _ _ ?_ (fun hHt40 => ?_)
  · (exact HALL.out _ hB10)
  clear hKt40 Kt40 hHeld
  have hHeld := hHt40
  clear hHt40
  try simp only [Act.put, List.setIfInBounds_toArray, List.set_cons_zero, List.set_cons_succ]
  refine wpAnyH_ready (rs := [40]) (by kernel_rfl) (by simp) ?_
  refine AllReadyH.cons (o := ?tko41) ?tkh41 (fun Kt41 hKt41 => ?_) AllReadyH.nil
  case tkh41 => (simp only [List.getElem?_toArray, List.getElem?_cons_succ, List.getElem?_cons_zero]; rfl)
  go_simp
  (go_at_call 31; refine (R5.out _ (HBW.out _ hB10)).mono ?_; rintro e w11 ⟨rfl, hb11⟩; have hB11 := hB10.trans (hb11.mono hB10.size))
  refine hKt41.out _ _ ?_ (fun hHt41 => ?_)
  · (exact HALL.out _ hB11)
  clear hKt41 Kt41 hHeld
  have hHeld := hHt41
  clear hHt41
  try simp only [Act.put, List.setIfInBounds_toArray, List.set_cons_zero, List.set_cons_succ]
  refine wpAnyH_take (i := 41) (oi := ?tko42) (v := ?tkv42) ?tkh42 (by kernel_rfl) (by kernel_rfl) (by kernel_rfl) ?tkq42 ?tky42 hHeld ?tkr42
  case tkh42 => (simp only [List.getElem?_toArray, List.getElem?_cons_succ, List.getElem?_cons_zero]; rfl)
  case tkq42 => exact fun _ _ _ h => h
  case tky42 => exact Or.inl ⟨by rfl, by intro wSw hSw; (try dsimp only at hSw); go_simp; try with_reducible rfl⟩
  try simp only [Act.put, List.setIfInBounds_toArray, List.set_cons_zero, List.set_cons_succ]
  refine wpAnyH_take (i := 42) (oi := ?tko43) (v := ?tkv43) ?tkh43 (by kernel_rfl) (by kernel_rfl) (by kernel_rfl) ?tkq43 ?tky43 hHeld ?tkr43
  case tkh43 => (simp only [List.getElem?_toArray, List.getElem?_cons_succ, List.getElem?_cons_zero]; rfl)
  case tkq43 => exact fun _ _ _ h => h
  case tky43 => exact Or.inl ⟨by rfl, by intro wSw hSw; (try dsimp only at hSw); go_simp; try with_reducible rfl⟩
  try simp only [Act.put, List.setIfInBounds_toArray, List.set_cons_zero, List.set_cons_succ]
  refine wpAnyH_take (i := 43) (oi := ?tko44) (v := ?tkv44) ?tkh44 (by kernel_rfl) (by kernel_rfl) (by kernel_rfl) ?tkq44 ?tky44 hHeld ?tkr44
  case tkh44 => (simp only [List.getElem?_toArray, List.getElem?_cons_succ, List.getElem?_cons_zero]; rfl)
  case tkq44 => exact fun _ _ _ h => h
  case tky44 => exact Or.inl ⟨by rfl, by intro wSw hSw; (try dsimp only at hSw); go_simp; try with_reducible rfl⟩
  try simp only [Act.put, List.setIfInBounds_toArray, List.set_cons_zero, List.set_cons_succ]
  refine wpAnyH_done (by kernel_rfl) ?_ _
  go_wp2
  go_ret
  exact ⟨rfl, HBW.out _ hB11⟩
end Go.Proofs.Ytlkfdnbgplkiiaa.Trace
