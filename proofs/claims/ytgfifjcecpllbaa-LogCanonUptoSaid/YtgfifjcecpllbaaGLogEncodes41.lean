/-
  The walk of the law LogSealed (stage 10). By an AI agent.
-/
import Derived.Test.YtgfifjcecpllbaaGLogEncodes40
namespace Go.Proofs.Ytgfifjcecpllbaa.Log
open Go.RowKit Go.Proofs.Ytgfifjcecpllbaa.Ints Go.Proofs.Ytgfifjcecpllbaa.Mem Go.Proofs.Ytgfifjcecpllbaa.SumMath Go.Proofs.Ytgfifjcecpllbaa.SumWalks Go.Proofs.Ytgfifjcecpllbaa.Trace Go.Proofs.Ytgfifjcecpllbaa.Record

theorem strs_pqr (w : World) (T : TypeId) : Strs (w.alloc (.cells #[.string { data := #[112] }, .string { data := #[113] }, .string { data := #[114] }] T)) (some ⟨w.heap.size, 0, none⟩) [[112], [113], [114]] := fun _ => by
  refine ⟨w.heap.size, 0, rfl, fun j s hs => ?_⟩
  rw [cell_of_row _ w.heap.size _ _ T (0, 0) (heap_alloc_new w _), Nat.zero_add]
  rcases j with _ | _ | _ | j
  · simp at hs; subst hs; rfl
  · simp at hs; subst hs; rfl
  · simp at hs; subst hs; rfl
  · simp at hs
theorem ids_next {l : List Ev} {i : Nat} (h : ∀ j, j < i → (l.getD j noEv).ids.length ≤ 300) (h2 : (l.getD i noEv).ids.length ≤ 300) : ∀ j, j < i + 1 → (l.getD j noEv).ids.length ≤ 300 := fun j hj => by
  by_cases e : j = i
  · rw [e]; exact h2
  · exact h j (by omega)

set_option maxHeartbeats 8000000 in
set_option maxRecDepth 100000 in
theorem lawSealed (NA : Option Addr) (nn nc : Nat) (names : List (List UInt8)) (EA : Option Addr) (ne ec : Nat) (l : List Ev) (w : World) (hnl : names.length = nn) (hnc : nn ≤ maxLen) (hN : Strs w NA names) (hsum : (names.map List.length).sum ≤ 1048576)
    (hel : l.length = ne) (hec : ne ≤ maxLen) (hE : Evs Any w EA l) :
    Calls Try.prog 6 #[.slice NA nn nc, .slice EA ne ec] w fun e w' => e = .returned (.bool true) ∧ Below w.heap.size w w' := by
  have q63 : maxLen = 9223372036854775807 := rfl
  have HD := Lib.hid hN
  have HL := Lib.hid hnl
  have HEV := Lib.hid hE
  have HEL := Lib.hid hel
  have HS := Lib.hid hsum
  clear hN hnl hE hel hsum
  by_cases h3 : nn > 300
  · have h3' : (nn : Int) > 300 := by omega
    go_enter Try.func6, Try.ntmps6
    go_wp2_with fail
    refine (awakeL w).mono ?_
    rintro e w' ⟨rfl, hB⟩
    go_wp2
    go_ret
    exact ⟨rfl, hB⟩
  have h3' : ¬ ((nn : Int) > 300) := by omega
  by_cases h4 : ne > 300
  · have h4' : (ne : Int) > 300 := by omega
    go_enter Try.func6, Try.ntmps6
    go_wp2_with fail
    refine (awakeL w).mono ?_
    rintro e w' ⟨rfl, hB⟩
    go_wp2
    go_ret
    exact ⟨rfl, hB⟩
  have h4' : ¬ ((ne : Int) > 300) := by omega
  go_enter Try.func6, Try.ntmps6
  go_wp2_with fail
  go_loopw [18] (fun iv wr => ∃ i : Nat, i ≤ ne ∧ iv = .int .i64 i ∧ Below w.heap.size w wr ∧ Hid (∀ j, j < i → (l.getD j noEv).ids.length ≤ 300)) (fun iv _ => ne - (intOf iv).toNat)
  case atStart => exact ⟨0, Nat.zero_le _, rfl, Below.refl _ _, fun j hj => absurd hj (Nat.not_lt_zero _)⟩
  case round =>
    obtain ⟨i, hi, rfl, hBr, HID⟩ := hrel
    by_cases hin : i < ne
    · obtain ⟨b', off, K, ck, rfl, c0, c1, hokk⟩ := (HEV.out.below hBr).kids (k := i) (by rw [HEL.out]; exact hin)
      have HNX := Lib.hid (fun h => ids_next HID.out (i := i) h)
      obtain ⟨ev, hev⟩ : ∃ ev, l.getD i noEv = ev := ⟨_, rfl⟩
      rw [hev] at c0 c1 hokk HNX
      have hmm := hokk.2.2
      obtain ⟨m3, hm3⟩ : ∃ m3, ev.ids.length = m3 := ⟨_, rfl⟩
      rw [hm3] at c1 hmm HNX
      have hx := Blk.new wr #[.int .u64 ev.time, .slice K m3 ck] 39 [.int .u64 ev.time, .slice K m3 ck] rfl
      have x1 := hx.cell 1 rfl
      have HAL := Lib.hid (hBr.alloc hBr.size (.cells #[.int .u64 ev.time, .slice K m3 ck] 39))
      have hmc : (m3 : Int) ≤ 9223372036854775807 := by omega
      by_cases h5 : m3 > 300
      · have h5' : (m3 : Int) > 300 := by omega
        clear hev hm3 hokk hx hmm HNX
        go_wp2_with fail
        refine (awakeL _).mono ?_
        rintro e w' ⟨rfl, hB⟩
        go_wp2
        go_ret
        exact ⟨rfl, HAL.out.trans (hB.mono HAL.out.size)⟩
      have h5' : ¬ ((m3 : Int) > 300) := by omega
      have HN2 := Lib.hid (HNX.out (by omega))
      clear hev hm3 hokk hx hmm HNX
      go_wp2_with fail
      go_roundw
      case rel => exact ⟨i + 1, by omega, by go_num, HAL.out, HN2.out⟩
      case measure => simp [intOf]; omega
    obtain rfl : i = ne := by omega
    have HBR := Lib.hid hBr
    have F1 := lawSeal NA nn nc names EA i ec l wr HL.out (by omega) (HD.out.below hBr) HS.out HEL.out (by omega) (HEV.out.below hBr) HID.out
    have HF1 := Lib.hid F1
    clear hBr F1
    go_wp2_with fail
    refine HF1.out.mono ?_
    rintro e w1 ⟨zs, A1, n1, c1, rfl, hrd, hc1, hm1, hn1, -, hB1⟩
    have HB1 := Lib.hid (HBR.out.trans (hB1.mono HBR.out.size))
    have HR1 := Lib.hid (lawRead landDecode landHead A1 n1 c1 zs w1 hc1 hm1 (by omega) hrd)
    clear hB1 hrd HF1
    go_wp2_with fail
    refine HR1.out.mono ?_
    rintro e w2 ⟨rfl, hB2⟩
    have HB2 := Lib.hid (HB1.out.trans (hB2.mono HB1.out.size))
    have hal := HB2.out.alloc HB2.out.size (.cells #[.string { data := #[112] }, .string { data := #[113] }, .string { data := #[114] }] 9)
    have F3 := lawSeal (some ⟨w2.heap.size, 0, none⟩) 3 3 [[112], [113], [114]] EA i ec l _ rfl (by decide) (strs_pqr w2 9) (by decide) HEL.out (by omega) (HEV.out.below hal) HID.out
    have HF3 := Lib.hid F3
    have HAL := Lib.hid hal
    clear hB2 F3 hal HR1
    go_wp2_with fail
    refine HF3.out.mono ?_
    rintro e w3 ⟨ys, A3, n3, c3, rfl, hrd, hc3, hm3, hn3, -, hB3⟩
    have HB3 := Lib.hid (HAL.out.trans (hB3.mono HAL.out.size))
    have HR3 := Lib.hid (lawRead landDecode landHead A3 n3 c3 ys w3 hc3 hm3 (by omega) hrd)
    clear hB3 hrd HF3
    go_wp2_with fail
    refine HR3.out.mono ?_
    rintro e w4 ⟨rfl, hB4⟩
    have HB4 := Lib.hid (HB3.out.trans (hB4.mono HB3.out.size))
    clear hB4 HR3
    go_wp2_with fail
    refine (awakeL w4).mono ?_
    rintro e w5 ⟨rfl, hB5⟩
    go_wp2
    go_ret
    exact ⟨rfl, HB4.out.trans (hB5.mono HB4.out.size)⟩
end Go.Proofs.Ytgfifjcecpllbaa.Log
