/-
  The walk of the reference's May (traces). By an AI agent.
-/
import Derived.Test.YtlkfdnbgplkiiaaTraceRef1
namespace Go.Proofs.Ytlkfdnbgplkiiaa.Trace
open Go.RowKit Go.Proofs.Ytlkfdnbgplkiiaa.Ints Go.Proofs.Ytlkfdnbgplkiiaa.Mem

/-- The box of a trace, in a new block. -/
abbrev boxT (w : World) (NA : Option Addr) (nn nc : Nat) (EA : Option Addr) (ne ec : Nat) : World := w.alloc (.cells #[.slice NA nn nc, .slice EA ne ec] 26)
theorem boxT_at {w W : World} {NA EA : Option Addr} {nn nc ne ec : Nat} (hb : Below (w.heap.size + 1) (boxT w NA nn nc EA ne ec) W) :
    W.cell? ⟨w.heap.size, 0, none⟩ = some (.slice NA nn nc) ∧ W.cell? ⟨w.heap.size, 1, none⟩ = some (.slice EA ne ec) := by
  have h0 : (boxT w NA nn nc EA ne ec).cell? ⟨w.heap.size, 0, none⟩ = some (.slice NA nn nc) := box_cell 0 _ rfl
  have h1 : (boxT w NA nn nc EA ne ec).cell? ⟨w.heap.size, 1, none⟩ = some (.slice EA ne ec) := box_cell 1 _ rfl
  exact ⟨(hb.cell (p := ⟨w.heap.size, 0, none⟩) (by show w.heap.size < w.heap.size + 1; omega)).trans h0, (hb.cell (p := ⟨w.heap.size, 1, none⟩) (by show w.heap.size < w.heap.size + 1; omega)).trans h1⟩
theorem boxT_below {w W : World} {NA EA : Option Addr} {nn nc ne ec : Nat} (hb : Below (w.heap.size + 1) (boxT w NA nn nc EA ne ec) W) : Below w.heap.size w W :=
  ((Below.refl w.heap.size w).alloc (Nat.le_refl _) _).trans (hb.mono (by omega))

set_option maxHeartbeats 4000000 in
set_option maxRecDepth 100000 in
theorem refMay (NA : Option Addr) (nn nc : Nat) (EA : Option Addr) (ne ec : Nat) (t : Tr) (w : World) (h : TrOk Any w NA nn nc EA ne ec t) :
    Calls Try.prog 28 #[.agg #[.slice NA nn nc, .slice EA ne ec]] w fun e w' => e = .returned (.bool (mayT t)) ∧ Below w.heap.size w w' := by
  have hm : maxLen = 9223372036854775807 := rfl
  have hni : (nn : Int) ≤ 9223372036854775807 := by have := h.ncap; omega
  have hei : (ne : Int) ≤ 9223372036854775807 := by have := h.ecap; omega
  have HD := Lib.hid h
  have hN := fun W (hb : Below w.heap.size w W) => refNames NA nn nc t.names W h.nlen h.ncap.1 (h.names.below hb) h.sizes
  obtain ⟨ns, hns⟩ : ∃ b, namesOk t.names = b := ⟨_, rfl⟩
  rw [hns] at hN
  have HN := Lib.hid hN
  cases ns
  · have HR := Lib.hid (show mayT t = false by unfold mayT; rw [hns]; rfl)
    clear h hN hns hm
    go_enter Try.func28, Try.ntmps28
    go_wp2_with (go_at_call 11; refine (HN.out _ ((Below.refl _ _).alloc (Nat.le_refl _) _)).mono ?_; rintro e w' ⟨rfl, rfl⟩)
    go_ret
    exact ⟨by rw [HR.out]; rfl, (Below.refl _ _).alloc (Nat.le_refl _) _⟩
  · have HE := Lib.hid (show mayT t = evsOk t.events (nn : Int) by unfold mayT; rw [hns, h.nlen]; rfl)
    clear h hN hns hm
    go_enter Try.func28, Try.ntmps28
    go_wp2_with (go_at_call 11; refine (HN.out _ ((Below.refl _ _).alloc (Nat.le_refl _) _)).mono ?_; rintro e w' ⟨rfl, rfl⟩)
    go_loopw [12] (fun i wr => ∃ k : Nat, k ≤ ne ∧ i = .int .i64 k ∧ Hid (∀ j, j < k → EvGood t.events (nn : Int) j) ∧ Below (w.heap.size + 1) (boxT w NA nn nc EA ne ec) wr) (fun i _ => ne - (intOf i).toNat)
    case atStart => exact ⟨0, Nat.zero_le _, rfl, fun j hj => absurd hj (by omega), Below.refl _ _⟩
    case round =>
      obtain ⟨k, hk, rfl, HG, hB⟩ := hrel
      obtain ⟨t0, t1⟩ := boxT_at hB
      have t0' : ∀ o : Obj, (wr.alloc o).cell? ⟨w.heap.size, 0, none⟩ = some (.slice NA nn nc) := fun o => Lib.cell?_alloc_marked o t0
      have t1' : ∀ o : Obj, (wr.alloc o).cell? ⟨w.heap.size, 1, none⟩ = some (.slice EA ne ec) := fun o => Lib.cell?_alloc_marked o t1
      have HB := Lib.hid hB
      have HBS : w.heap.size + 1 ≤ wr.heap.size := by have := hB.size; simpa [boxT] using this
      clear hB
      by_cases hkn : k < ne
      · have hkn' : (k : Int) < (ne : Int) := by omega
        have hk0 : (0 : Int) ≤ (k : Int) := by omega
        have HW := HD.out.below (boxT_below HB.out)
        have hlen : k < t.events.length := by rw [HW.elen]; exact hkn
        obtain ⟨b, off, e, hc⟩ := HW.evs (by omega)
        obtain ⟨x0, hw, K, c, x1, hK, hKc, hcK, -, -⟩ := hc k _ (List.getElem?_eq_getElem hlen)
        have hg : t.events.getD k noEv = t.events[k] := by simp [List.getD, hlen]
        rw [← hg] at x0 hw x1 hK hKc
        obtain ⟨ev, hev⟩ : ∃ ev, t.events.getD k noEv = ev := ⟨_, rfl⟩
        rw [hev] at x0 hw x1 hK hKc
        rw [Nat.mul_comm 2 k] at x0 x1
        have hI := fun W (hb : Below wr.heap.size wr W) => refIds K ev.ids.length c (nn : Int) ev.ids W (hK.below hb) (Nat.le_trans hKc hcK) ⟨by omega, hni⟩
        obtain ⟨q, hq⟩ : ∃ q, ev.ids.length = q := ⟨_, rfl⟩
        rw [hq] at hI x1
        have HLEN := Lib.hid hlen
        have HEV := Lib.hid hev
        subst e
        obtain ⟨hw1, hw2⟩ := wf_u64 hw
        rcases hid : idsOk ev.ids (nn : Int)
        · have HR := Lib.hid (evs_no (p := (nn : Int)) hlen (fun e => by have := e.1; rw [hev, hid] at this; cases this))
          rw [hid] at hI
          have HI := Lib.hid hI
          clear hI hid hc hg hlen hev hw hK hKc hcK HW hq
          go_wp2
          go_quiet ((go_at_call 13; refine (HI.out _ (below_drewN ((Below.refl _ _).alloc (Nat.le_refl _) _) _)).mono ?_; rintro e w' ⟨rfl, rfl⟩; exact ⟨rfl, _, rfl⟩))
          go_wp2
          go_ret
          exact ⟨by rw [HE.out, HR.out]; rfl, below_drewN ((boxT_below HB.out).alloc (boxT_below HB.out).size _) _⟩
        · rw [hid] at hI
          have HI := Lib.hid hI
          by_cases h0 : k = 0
          · have HZ := Lib.hid (good_more HG.out (p := EvGood t.events (nn : Int)) (k := k) ⟨by rw [hev]; exact hid, fun h => absurd h (by omega)⟩)
            clear hI hid hc hg hlen hev hw hK hKc hcK HW hq
            subst h0
            rw [Nat.zero_mul, Nat.add_zero] at x0 x1
            have hn0 : (0 : Int) < (ne : Int) := by omega
            go_wp2
            go_quiet ((go_at_call 13; refine (HI.out _ (below_drewN ((Below.refl _ _).alloc (Nat.le_refl _) _) _)).mono ?_; rintro e w' ⟨rfl, rfl⟩; exact ⟨rfl, _, rfl⟩))
            go_wp2
            go_roundw
            case rel => exact ⟨1, by omega, by go_num, HZ, below_drewN (HB.out.alloc HBS _) _⟩
            case measure => simp [intOf]; omega
          · have h0' : decide ((k : Int) > 0) = true := by simp; omega
            obtain ⟨y0, hv, -, -, -, -, -, -, -, -⟩ := hc (k - 1) _ (List.getElem?_eq_getElem (by omega))
            have hg2 : t.events.getD (k - 1) noEv = t.events[k - 1]'(by omega) := by simp [List.getD, show k - 1 < t.events.length by omega]
            rw [← hg2] at y0 hv
            obtain ⟨fv, hfv⟩ : ∃ fv, t.events.getD (k - 1) noEv = fv := ⟨_, rfl⟩
            rw [hfv] at y0 hv
            rw [Nat.mul_comm 2 (k - 1)] at y0
            have y0' : ∀ o : Obj, (wr.alloc o).cell? ⟨b, off + (k - 1) * 2, none⟩ = some (.int .u64 fv.time) := fun o => Lib.cell?_alloc_marked o y0
            have hk1 : (k : Int) - 1 = ((k - 1 : Nat) : Int) := by omega
            have hk2 : ((k - 1 : Nat) : Int) < (ne : Int) := by omega
            have hk3 : (0 : Int) ≤ ((k - 1 : Nat) : Int) := by omega
            have hk4 : IntKind.i64.wrap ((k : Int) - 1) = ((k - 1 : Nat) : Int) := by rw [hk1]; simp only [IntKind.wrap, IntKind.bits, IntKind.signed]; simp; omega
            have hkp : (0 : Int) < (k : Int) := by omega
            have hkp' : 0 < k := by omega
            by_cases h3 : ev.time < fv.time
            · have HR := Lib.hid (evs_no (p := (nn : Int)) hlen (fun e => by have := e.2 (by omega); rw [hev, hfv] at this; omega))
              clear hI hid hc hg hg2 hlen hev hfv hw hv hK hKc hcK HW hq
              go_wp2
              go_quiet ((go_at_call 13; refine (HI.out _ (below_drewN ((Below.refl _ _).alloc (Nat.le_refl _) _) _)).mono ?_; rintro e w' ⟨rfl, rfl⟩; exact ⟨rfl, _, rfl⟩))
              go_wp2
              go_ret
              exact ⟨by rw [HE.out, HR.out]; rfl, below_drewN ((boxT_below HB.out).alloc (boxT_below HB.out).size _) _⟩
            · have h3' : decide (ev.time < fv.time) = false := decide_eq_false h3
              have HZ := Lib.hid (good_more HG.out (p := EvGood t.events (nn : Int)) (k := k) ⟨by rw [hev]; exact hid, fun _ => by rw [hev, hfv]; omega⟩)
              clear hI hid hc hg hg2 hlen hev hfv hw hv hK hKc hcK HW hq
              go_wp2
              go_quiet ((go_at_call 13; refine (HI.out _ (below_drewN ((Below.refl _ _).alloc (Nat.le_refl _) _) _)).mono ?_; rintro e w' ⟨rfl, rfl⟩; exact ⟨rfl, _, rfl⟩))
              go_wp2
              go_roundw
              case rel => exact ⟨k + 1, by omega, by go_num, HZ, below_drewN (HB.out.alloc HBS _) _⟩
              case measure => simp [intOf]; omega
      · have hge : decide ((k : Int) < (ne : Int)) = false := by simp; omega
        have HR := Lib.hid (evs_yes (l := t.events) (p := (nn : Int)) (fun j hj => HG.out j (by have := HD.out.elen; omega)))
        go_wp2
        go_ret
        exact ⟨by rw [HE.out, HR.out]; rfl, boxT_below HB.out⟩
end Go.Proofs.Ytlkfdnbgplkiiaa.Trace
