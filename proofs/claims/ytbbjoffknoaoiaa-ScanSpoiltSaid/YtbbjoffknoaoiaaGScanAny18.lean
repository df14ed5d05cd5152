/-
  The walk of the reference's May (traces). By an AI agent.
  The walk of the reference's Header. By an AI agent.
-/
import Derived.Test.YtbbjoffknoaoiaaGScanAny17
import Derived.Test.YtbbjoffknoaoiaaGScanAny15
import Derived.Test.YtbbjoffknoaoiaaGScanAny16
namespace Go.Proofs.Ytbbjoffknoaoiaa.Trace
open Go.RowKit Go.Proofs.Ytbbjoffknoaoiaa.Ints Go.Proofs.Ytbbjoffknoaoiaa.Mem

/-- The box of a trace, in a new block. -/
abbrev boxT (w : World) (NA : Option Addr) (nn nc : Nat) (EA : Option Addr) (ne ec : Nat) : World := w.alloc (.cells #[.slice NA nn nc, .slice EA ne ec] 34)
theorem boxT_at {w W : World} {NA EA : Option Addr} {nn nc ne ec : Nat} (hb : Below (w.heap.size + 1) (boxT w NA nn nc EA ne ec) W) :
    W.cell? ⟨w.heap.size, 0, none⟩ = some (.slice NA nn nc) ∧ W.cell? ⟨w.heap.size, 1, none⟩ = some (.slice EA ne ec) := by
  have h0 : (boxT w NA nn nc EA ne ec).cell? ⟨w.heap.size, 0, none⟩ = some (.slice NA nn nc) := box_cell 0 _ rfl
  have h1 : (boxT w NA nn nc EA ne ec).cell? ⟨w.heap.size, 1, none⟩ = some (.slice EA ne ec) := box_cell 1 _ rfl
  exact ⟨(hb.cell (p := ⟨w.heap.size, 0, none⟩) (by show w.heap.size < w.heap.size + 1; omega)).trans h0, (hb.cell (p := ⟨w.heap.size, 1, none⟩) (by show w.heap.size < w.heap.size + 1; omega)).trans h1⟩
theorem boxT_below {w W : World} {NA EA : Option Addr} {nn nc ne ec : Nat} (hb : Below (w.heap.size + 1) (boxT w NA nn nc EA ne ec) W) : Below w.heap.size w W :=
  ((Below.refl w.heap.size w).alloc (Nat.le_refl _) _).trans (hb.mono (by omega))

set_option maxHeartbeats 4000000 in
set_option maxRecDepth 100000 in
theorem refMay (NA : Option Addr) (nn nc : Nat) (EA : Option Addr) (ne ec : Nat) (t : Tr) (w : World) (h : TrOk Any w NA nn nc EA ne ec t) :
    Calls Try.prog 24 #[.agg #[.slice NA nn nc, .slice EA ne ec]] w fun e w' => e = .returned (.bool (mayT t)) ∧ Below w.heap.size w w' := by
  have hm : maxLen = 9223372036854775807 := rfl
  have hni : (nn : Int) ≤ 9223372036854775807 := by have := h.ncap; omega
  have hei : (ne : Int) ≤ 9223372036854775807 := by have := h.ecap; omega
  have HD := Lib.hid h
  have hN := fun W (hb : Below w.heap.size w W) => refNames NA nn nc t.names W h.nlen h.ncap.1 (h.names.below hb) h.sizes
  obtain ⟨ns, hns⟩ : ∃ b, namesOk t.names = b := ⟨_, rfl⟩
  rw [hns] at hN
  have HN := Lib.hid hN
  cases ns
  · have HR := Lib.hid (show mayT t = false by unfold mayT; rw [hns]; rfl)
    clear h hN hns hm
    go_enter Try.func24, Try.ntmps24
    go_wp2_with (go_at_call 47; refine (HN.out _ ((Below.refl _ _).alloc (Nat.le_refl _) _)).mono ?_; rintro e w' ⟨rfl, rfl⟩)
    go_ret
    exact ⟨by rw [HR.out]; rfl, (Below.refl _ _).alloc (Nat.le_refl _) _⟩
  · have HE := Lib.hid (show mayT t = evsOk t.events (nn : Int) by unfold mayT; rw [hns, h.nlen]; rfl)
    clear h hN hns hm
    go_enter Try.func24, Try.ntmps24
    go_wp2_with (go_at_call 47; refine (HN.out _ ((Below.refl _ _).alloc (Nat.le_refl _) _)).mono ?_; rintro e w' ⟨rfl, rfl⟩)
    go_loopw [12] (fun i wr => ∃ k : Nat, k ≤ ne ∧ i = .int .i64 k ∧ Hid (∀ j, j < k → EvGood t.events (nn : Int) j) ∧ Below (w.heap.size + 1) (boxT w NA nn nc EA ne ec) wr) (fun i _ => ne - (intOf i).toNat)
    case atStart => exact ⟨0, Nat.zero_le _, rfl, fun j hj => absurd hj (by omega), Below.refl _ _⟩
    case round =>
      obtain ⟨k, hk, rfl, HG, hB⟩ := hrel
      obtain ⟨t0, t1⟩ := boxT_at hB
      have t0' : ∀ o : Obj, (wr.alloc o).cell? ⟨w.heap.size, 0, none⟩ = some (.slice NA nn nc) := fun o => Lib.cell?_alloc_marked o t0
      have t1' : ∀ o : Obj, (wr.alloc o).cell? ⟨w.heap.size, 1, none⟩ = some (.slice EA ne ec) := fun o => Lib.cell?_alloc_marked o t1
      have HB := Lib.hid hB
      have HBS : w.heap.size + 1 ≤ wr.heap.size := by have := hB.size; simpa [boxT] using this
      clear hB
      by_cases hkn : k < ne
      · have hkn' : (k : Int) < (ne : Int) := by omega
        have hk0 : (0 : Int) ≤ (k : Int) := by omega
        have HW := HD.out.below (boxT_below HB.out)
        have hlen : k < t.events.length := by rw [HW.elen]; exact hkn
        obtain ⟨b, off, e, hc⟩ := HW.evs (by omega)
        obtain ⟨x0, hw, K, c, x1, hK, hKc, hcK, -, -⟩ := hc k _ (List.getElem?_eq_getElem hlen)
        have hg : t.events.getD k noEv = t.events[k] := by simp [List.getD, hlen]
        rw [← hg] at x0 hw x1 hK hKc
        obtain ⟨ev, hev⟩ : ∃ ev, t.events.getD k noEv = ev := ⟨_, rfl⟩
        rw [hev] at x0 hw x1 hK hKc
        rw [Nat.mul_comm 2 k] at x0 x1
        have hI := fun W (hb : Below wr.heap.size wr W) => refIds K ev.ids.length c (nn : Int) ev.ids W (hK.below hb) (Nat.le_trans hKc hcK) ⟨by omega, hni⟩
        obtain ⟨q, hq⟩ : ∃ q, ev.ids.length = q := ⟨_, rfl⟩
        rw [hq] at hI x1
        have HLEN := Lib.hid hlen
        have HEV := Lib.hid hev
        subst e
        obtain ⟨hw1, hw2⟩ := wf_u64 hw
        rcases hid : idsOk ev.ids (nn : Int)
        · have HR := Lib.hid (evs_no (p := (nn : Int)) hlen (fun e => by have := e.1; rw [hev, hid] at this; cases this))
          rw [hid] at hI
          have HI := Lib.hid hI
          clear hI hid hc hg hlen hev hw hK hKc hcK HW hq
          go_wp2
          go_quiet ((go_at_call 48; refine (HI.out _ (below_drewN ((Below.refl _ _).alloc (Nat.le_refl _) _) _)).mono ?_; rintro e w' ⟨rfl, rfl⟩; exact ⟨rfl, _, rfl⟩))
          go_wp2
          go_ret
          exact ⟨by rw [HE.out, HR.out]; rfl, below_drewN ((boxT_below HB.out).alloc (boxT_below HB.out).size _) _⟩
        · rw [hid] at hI
          have HI := Lib.hid hI
          by_cases h0 : k = 0
          · have HZ := Lib.hid (good_more HG.out (p := EvGood t.events (nn : Int)) (k := k) ⟨by rw [hev]; exact hid, fun h => absurd h (by omega)⟩)
            clear hI hid hc hg hlen hev hw hK hKc hcK HW hq
            subst h0
            rw [Nat.zero_mul, Nat.add_zero] at x0 x1
            have hn0 : (0 : Int) < (ne : Int) := by omega
            go_wp2
            go_quiet ((go_at_call 48; refine (HI.out _ (below_drewN ((Below.refl _ _).alloc (Nat.le_refl _) _) _)).mono ?_; rintro e w' ⟨rfl, rfl⟩; exact ⟨rfl, _, rfl⟩))
            go_wp2
            go_roundw
            case rel => exact ⟨1, by omega, by go_num, HZ, below_drewN (HB.out.alloc HBS _) _⟩
            case measure => simp [intOf]; omega
          · have h0' : decide ((k : Int) > 0) = true := by simp; omega
            obtain ⟨y0, hv, -, -, -, -, -, -, -, -⟩ := hc (k - 1) _ (List.getElem?_eq_getElem (by omega))
            have hg2 : t.events.getD (k - 1) noEv = t.events[k - 1]'(by omega) := by simp [List.getD, show k - 1 < t.events.length by omega]
            rw [← hg2] at y0 hv
            obtain ⟨fv, hfv⟩ : ∃ fv, t.events.getD (k - 1) noEv = fv := ⟨_, rfl⟩
            rw [hfv] at y0 hv
            rw [Nat.mul_comm 2 (k - 1)] at y0
            have y0' : ∀ o : Obj, (wr.alloc o).cell? ⟨b, off + (k - 1) * 2, none⟩ = some (.int .u64 fv.time) := fun o => Lib.cell?_alloc_marked o y0
            have hk1 : (k : Int) - 1 = ((k - 1 : Nat) : Int) := by omega
            have hk2 : ((k - 1 : Nat) : Int) < (ne : Int) := by omega
            have hk3 : (0 : Int) ≤ ((k - 1 : Nat) : Int) := by omega
            have hk4 : IntKind.i64.wrap ((k : Int) - 1) = ((k - 1 : Nat) : Int) := by rw [hk1]; simp only [IntKind.wrap, IntKind.bits, IntKind.signed]; simp; omega
            have hkp : (0 : Int) < (k : Int) := by omega
            have hkp' : 0 < k := by omega
            by_cases h3 : ev.time < fv.time
            · have HR := Lib.hid (evs_no (p := (nn : Int)) hlen (fun e => by have := e.2 (by omega); rw [hev, hfv] at this; omega))
              clear hI hid hc hg hg2 hlen hev hfv hw hv hK hKc hcK HW hq
              go_wp2
              go_quiet ((go_at_call 48; refine (HI.out _ (below_drewN ((Below.refl _ _).alloc (Nat.le_refl _) _) _)).mono ?_; rintro e w' ⟨rfl, rfl⟩; exact ⟨rfl, _, rfl⟩))
              go_wp2
              go_ret
              exact ⟨by rw [HE.out, HR.out]; rfl, below_drewN ((boxT_below HB.out).alloc (boxT_below HB.out).size _) _⟩
            · have h3' : decide (ev.time < fv.time) = false := decide_eq_false h3
              have HZ := Lib.hid (good_more HG.out (p := EvGood t.events (nn : Int)) (k := k) ⟨by rw [hev]; exact hid, fun _ => by rw [hev, hfv]; omega⟩)
              clear hI hid hc hg hg2 hlen hev hfv hw hv hK hKc hcK HW hq
              go_wp2
              go_quiet ((go_at_call 48; refine (HI.out _ (below_drewN ((Below.refl _ _).alloc (Nat.le_refl _) _) _)).mono ?_; rintro e w' ⟨rfl, rfl⟩; exact ⟨rfl, _, rfl⟩))
              go_wp2
              go_roundw
              case rel => exact ⟨k + 1, by omega, by go_num, HZ, below_drewN (HB.out.alloc HBS _) _⟩
              case measure => simp [intOf]; omega
      · have hge : decide ((k : Int) < (ne : Int)) = false := by simp; omega
        have HR := Lib.hid (evs_yes (l := t.events) (p := (nn : Int)) (fun j hj => HG.out j (by have := HD.out.elen; omega)))
        go_wp2
        go_ret
        exact ⟨by rw [HE.out, HR.out]; rfl, boxT_below HB.out⟩
end Go.Proofs.Ytbbjoffknoaoiaa.Trace

namespace Go.Proofs.Ytbbjoffknoaoiaa.Log
open Go.RowKit Go.Proofs.Ytbbjoffknoaoiaa.Ints Go.Proofs.Ytbbjoffknoaoiaa.Mem Go.Proofs.Ytbbjoffknoaoiaa.SumMath Go.Proofs.Ytbbjoffknoaoiaa.SumWalks Go.Proofs.Ytbbjoffknoaoiaa.Trace Go.Proofs.Ytbbjoffknoaoiaa.Record

theorem info5s : (Try.prog.info? 5).map (fun i => (i.zero, i.size, i.bytes)) = some (some (.int .u8 0), 1, 1) := by kernel_rfl
theorem strs_cell {w : World} {A : Option Addr} {l : List (List UInt8)} (h : Strs w A l) {k : Nat} (hk : k < l.length) :
    ∃ b off, A = some ⟨b, off, none⟩ ∧ w.cell? ⟨b, off + k, none⟩ = some (.string ⟨(l.getD k []).toArray⟩) := by
  obtain ⟨b, off, e, hc⟩ := h (by omega)
  refine ⟨b, off, e, ?_⟩
  have := hc k _ (List.getElem?_eq_getElem hk)
  rw [this]
  simp [strS, List.getD, hk]

set_option maxHeartbeats 4000000 in
set_option maxRecDepth 100000 in
theorem refHeader (A : Option Addr) (n c : Nat) (l : List (List UInt8)) (w : World) (hl : l.length = n) (hn : n ≤ 64) (h : Strs w A l) (hs : ∀ s ∈ l, s.length ≤ 16) :
    Calls Try.prog 25 #[.slice A n c] w (GotBytes w (headL l)) := by
  obtain ⟨i0, hi, hz0, hz1, hz2⟩ := info_parts info5s
  have q63 : maxLen = 9223372036854775807 := rfl
  have HS := Lib.hid hs
  have HD := Lib.hid h
  have HL := Lib.hid hl
  have hnm : (n : Int) % 256 = (n : Int) := by omega
  have HNM := Lib.hid hnm
  obtain ⟨F, hF⟩ : ∃ F : Nat → List Int, F = fun k => [87, 71, 76, 1, (n : Int)] ++ (l.take k).flatMap nameB := ⟨_, rfl⟩
  have hF0 : F 0 = [87, 71, 76, 1, (n : Int)] := by rw [hF]; simp
  have hFn : F n = frontL l := by rw [hF]; unfold frontL; rw [hl, hnm]; simp only; rw [List.take_of_length_le (by omega)]
  have hFs : ∀ k, k < n → F (k + 1) = F k ++ nameB (l.getD k []) := fun k hk => by rw [hF]; simp only; rw [flat_next l k (by omega), List.append_assoc]
  have hFl : ∀ k, k ≤ n → (F k).length ≤ 5 + 17 * 64 := fun k hk => by
    rw [hF]
    simp only [List.length_append]
    have := flat_len (names := l.take k) (m := 16) (fun s h => hs s (List.mem_of_mem_take h))
    have e : (l.take k).length ≤ 64 := by rw [List.length_take]; omega
    have : ([87, 71, 76, 1, (n : Int)] : List Int).length = 5 := rfl
    omega
  have HF0 := Lib.hid hF0
  have HFn := Lib.hid hFn
  have HFs := Lib.hid hFs
  have HFl := Lib.hid hFl
  have HHB := Lib.hid (u8_all (front_bytes l))
  clear hF hF0 hFn hFs hFl hnm hs h hl
  go_enter Try.func25, Try.ntmps25
  go_wp2
  go_loopw [3, 12] (fun v i wr => ∃ k : Nat, k ≤ n ∧ i = .int .i64 k ∧ wr.ownsRow w.heap.size 5 1 v (F k).length ((F k).map (Value.int .u8)) ∧ Below w.heap.size w wr) (fun _ i _ => n - (intOf i).toNat)
  case atStart =>
    refine ⟨0, Nat.zero_le _, rfl, ?_, (Below.refl _ _).alloc (Nat.le_refl _) _⟩
    rw [HF0.out]
    exact own_lit w w.heap.size 5 .u8 [87, 71, 76, 1, (n : Int)] 5 rfl (by decide) (Nat.le_refl _)
  case round =>
    obtain ⟨k, hk, rfl, hrow, hBr⟩ := hrel
    have hsz := hBr.size
    by_cases hkn : k < n
    · obtain ⟨b, off, rfl, hcell⟩ := strs_cell (HD.out.below hBr) (k := k) (by rw [HL.out]; exact hkn)
      have hgl : (l.getD k []).length ≤ 16 := HS.out _ (by
        have hk2 : k < l.length := by rw [HL.out]; exact hkn
        have e : l.getD k [] = l[k] := by simp [List.getD, hk2]
        rw [e]; exact List.getElem_mem _)
      have HN := Lib.hid (HFs.out k hkn)
      have hfl := HFl.out k hk
      obtain ⟨sb, hsb⟩ : ∃ sb : ByteArray, (⟨(l.getD k []).toArray⟩ : ByteArray) = sb := ⟨_, rfl⟩
      have hsz2 : sb.size ≤ 16 := by rw [← hsb]; show (l.getD k []).toArray.size ≤ 16; simpa using hgl
      have hdl : sb.data.toList = l.getD k [] := by rw [← hsb]
      rw [hsb] at hcell
      have HDL := Lib.hid hdl
      have hlen : sb.size = (l.getD k []).length := by rw [← hdl]; exact Array.length_toList.symm
      have HLN := Lib.hid hlen
      have HROW := Lib.hid hrow
      obtain ⟨fl, hfl2⟩ : ∃ fl, (F k).length = fl := ⟨_, rfl⟩
      rw [hfl2] at HROW hfl
      have HFL2 := Lib.hid hfl2
      clear hsb hdl hlen hrow hfl2 hgl
      go_wp2_with (first
        | (at_builtin; refine wpList_append_str rfl _ _ 22 9 rfl w.heap.size 5 i0 Try.underlying22 Try.underlying9 hi hz0 hz1 hz2 _ _ _ rfl hown2 sb rfl (by omega) (by omega) hsz3 ?_; intro v4 w4 hown4 hgr4)
        | (at_builtin; refine wpList_append_ints rfl _ _ 22 rfl .u8 w.heap.size 5 i0 1 Try.underlying22 hi hz0 hz1 hz2 _ _ _ rfl (HROW.out.alloc _) _ 1 1 [(sb.size : Int)] rfl (Rd.lit wr 5 (0, 0) [(sb.size : Int)] (one_byte (by omega))) (by omega) (by omega) (le_alloc hsz) ?_; intro v2 w2 hown2 hgr2; have hB2 := (hBr.alloc hsz (.cells #[.int .u8 (sb.size : Int)] 5)).grown hgr2 (le_alloc hsz) (fun q hq => (HROW.out.lt q hq).1); have hsz3 := hB2.size))
      go_roundw
      case rel =>
        refine ⟨k + 1, by omega, by go_num, ?_, hB2.grown hgr4 hsz3 (fun q hq => (hown2.lt q hq).1)⟩
        have e1 : F (k + 1) = F k ++ [(sb.size : Int)] ++ toI sb.data.toList := by
          rw [HN.out, HDL.out, List.append_assoc]
          have e2 : ((l.getD k []).length : Int) % 256 = (sb.size : Int) := by have := HLN.out; omega
          unfold nameB
          rw [e2]
          rfl
        rw [e1]
        exact row_more (by rw [List.length_append, List.length_append, size_toI, HFL2.out]; rfl) rfl hown4
      case measure => simp [intOf]; omega
    · obtain rfl : k = n := by omega
      have hfl := HFl.out k hk
      rw [HFn.out] at hrow hfl
      obtain ⟨A2, c2, rfl, hc2, hm2, -, -⟩ := own_slice hrow
      have hrd := Rd.own hrow HHB.out
      obtain ⟨fl, hfl2⟩ : ∃ fl, (frontL l).length = fl := ⟨_, rfl⟩
      rw [hfl2] at hrd hc2 hfl ⊢
      have FP := Lib.hid (refPut A2 fl c2 (frontL l) wr (by omega) hrd)
      have HB := Lib.hid hBr
      have HFL := Lib.hid hfl2
      clear hrow hBr hrd hfl2
      go_wp2_with fail
      refine FP.out.mono ?_
      intro e w5 hmade
      obtain ⟨v5, rfl, hown5, hB5⟩ := hmade
      go_wp2
      go_ret
      refine ⟨_, rfl, row_more ?_ rfl (own_weaken hown5 HB.out.size), HB.out.trans (hB5.mono HB.out.size)⟩
      unfold headL
      rw [List.length_append, HFL.out]
      rfl
end Go.Proofs.Ytbbjoffknoaoiaa.Log
