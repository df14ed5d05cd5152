/-
  slices.Equal over ids, and the reference's SameEvent. By an AI agent.
  The walks of the landed package record: summed, Put. By an AI agent.
  The walk of the landed Put. By an AI agent.
  The walk of the reference's Ids. By an AI agent.
-/
import Derived.Test.YtgfifjcecpllbaaGLogEncodes2
import Derived.Test.YtgfifjcecpllbaaGLogEncodes11
import Derived.Test.YtgfifjcecpllbaaGLogEncodes10
namespace Go.Proofs.Ytgfifjcecpllbaa.Trace
open Go.RowKit Go.Proofs.Ytgfifjcecpllbaa.Ints Go.Proofs.Ytgfifjcecpllbaa.Mem

theorem equalInts (K1 K2 : Option Addr) (n1 c1 n2 c2 : Nat) (l1 l2 : List Int) (w : World) (h1 : Rd .i64 w K1 n1 l1) (h2 : Rd .i64 w K2 n2 l2) (hb1 : n1 ≤ maxLen) (hb2 : n2 ≤ maxLen) :
    Calls Try.prog 69 #[.slice K1 n1 c1, .slice K2 n2 c2] w fun e w' => e = .returned (.bool (decide (l1 = l2))) ∧ ∃ q, w' = w.drewN q := by
  have hm : maxLen = 9223372036854775807 := rfl
  by_cases hn : n1 = n2
  · subst hn
    by_cases h0 : n1 = 0
    · subst h0
      have e1 : l1 = [] := List.eq_nil_of_length_eq_zero h1.len
      have e2 : l2 = [] := List.eq_nil_of_length_eq_zero h2.len
      subst e1; subst e2
      exact (Try.slices_Equal_int_empty K1 K2 c1 0 c2 w (by omega)).mono fun e w' ⟨he, hw⟩ => ⟨he, 0, hw⟩
    · obtain ⟨b1, o1, rfl, k1⟩ := h1.cell (by omega)
      obtain ⟨b2, o2, rfl, k2⟩ := h2.cell (by omega)
      refine (Try.slices_Equal_int b1 o1 n1 c1 b2 o2 n1 c2 l1 l2 w (by rw [h1.len]; exact Nat.le_refl _) (by rw [h2.len]; exact Nat.le_refl _) (by omega) (by omega) (fun j hj => by have := k1 j (by rw [← h1.len]; exact hj); simpa [List.getD] using this) (fun j hj => by have := k2 j (by rw [← h2.len]; exact hj); simpa [List.getD] using this)).mono fun e w' ⟨he, hw⟩ => ⟨?_, hw⟩
      rw [he, List.take_of_length_le (by rw [h1.len]; exact Nat.le_refl _), List.take_of_length_le (by rw [h2.len]; exact Nat.le_refl _)]
      congr 2
      rw [Bool.eq_iff_iff, beq_iff_eq, decide_eq_true_iff]
  · have hne : decide (l1 = l2) = false := by
      rw [decide_eq_false_iff_not]
      intro e
      exact hn (by rw [← h1.len, ← h2.len, e])
    rw [hne]
    exact (Try.slices_Equal_int_lens K1 K2 n1 c1 n2 c2 w hn).mono fun e w' ⟨he, hw⟩ => ⟨he, 0, hw⟩

set_option maxHeartbeats 4000000 in
set_option maxRecDepth 100000 in
theorem refSameEvent (x y : Ev) (K1 K2 : Option Addr) (c1 c2 : Nat) (w : World) (hx : EvOk w x K1 c1) (hy : EvOk w y K2 c2) :
    Calls Try.prog 54 #[.agg #[.int .u64 x.time, .slice K1 x.ids.length c1], .agg #[.int .u64 y.time, .slice K2 y.ids.length c2]] w fun e w' => e = .returned (.bool (decide (x = y))) ∧ Below w.heap.size w w' := by
  have hE := fun W (hb : Below w.heap.size w W) => equalInts K1 K2 x.ids.length c1 y.ids.length c2 x.ids y.ids W (hx.2.1.below hb) (hy.2.1.below hb) (Nat.le_trans hx.2.2.1 hx.2.2.2) (Nat.le_trans hy.2.2.1 hy.2.2.2)
  have HX := Lib.hid hx
  obtain ⟨n1, hn1⟩ : ∃ n, x.ids.length = n := ⟨_, rfl⟩
  obtain ⟨n2, hn2⟩ : ∃ n, y.ids.length = n := ⟨_, rfl⟩
  obtain ⟨hx1, hx2⟩ := wf_u64 hx.1
  obtain ⟨hy1, hy2⟩ := wf_u64 hy.1
  rw [ev_eq, ← int_beq]
  rw [hn1, hn2] at hE ⊢
  obtain ⟨a, ha⟩ : ∃ a, x.time = a := ⟨_, rfl⟩
  obtain ⟨b, hb⟩ : ∃ b, y.time = b := ⟨_, rfl⟩
  rw [ha] at hx1 hx2
  rw [hb] at hy1 hy2
  rw [ha, hb]
  obtain ⟨r, hr⟩ : ∃ r, decide (x.ids = y.ids) = r := ⟨_, rfl⟩
  rw [hr] at hE ⊢
  have HE := Lib.hid hE
  clear hE hr hn1 hn2 hx hy ha hb
  rcases hab : (a == b)
  · go_enter Try.func54, Try.ntmps54
    go_wp2
    go_ret
    exact ⟨rfl, ((Below.refl _ _).alloc (Nat.le_refl _) _).alloc (le_alloc (Nat.le_refl _)) _⟩
  · go_enter Try.func54, Try.ntmps54
    go_wp2_with (go_at_call 69; refine (HE.out _ (((Below.refl _ _).alloc (Nat.le_refl _) _).alloc (le_alloc (Nat.le_refl _)) _)).mono ?_; rintro e w' ⟨rfl, q, rfl⟩)
    go_ret
    exact ⟨by simp, below_drewN (((Below.refl _ _).alloc (Nat.le_refl _) _).alloc (le_alloc (Nat.le_refl _)) _) _⟩

end Go.Proofs.Ytgfifjcecpllbaa.Trace

namespace Go.Proofs.Ytgfifjcecpllbaa.Record
open Go.RowKit Go.Proofs.Ytgfifjcecpllbaa.Ints Go.Proofs.Ytgfifjcecpllbaa.Mem Go.Proofs.Ytgfifjcecpllbaa.SumMath Go.Proofs.Ytgfifjcecpllbaa.SumWalks Go.Proofs.Ytgfifjcecpllbaa.Trace

/-- An event's box. -/
def boxE (w : World) (x : Ev) (K : Option Addr) (c : Nat) : World := w.alloc (.cells #[.int .u64 x.time, .slice K x.ids.length c] 39)
theorem boxE_at {w W : World} {x : Ev} {K : Option Addr} {c : Nat} (hb : Below (w.heap.size + 1) (boxE w x K c) W) :
    W.cell? ⟨w.heap.size, 0, none⟩ = some (.int .u64 x.time) ∧ W.cell? ⟨w.heap.size, 1, none⟩ = some (.slice K x.ids.length c) :=
  ⟨(hb.cell (p := ⟨w.heap.size, 0, none⟩) (Nat.lt_succ_self _)).trans (box_cell 0 _ rfl), (hb.cell (p := ⟨w.heap.size, 1, none⟩) (Nat.lt_succ_self _)).trans (box_cell 1 _ rfl)⟩
theorem boxE_below {w W : World} {x : Ev} {K : Option Addr} {c : Nat} (hb : Below (w.heap.size + 1) (boxE w x K c) W) : Below w.heap.size w W :=
  ((Below.refl _ w).alloc (Nat.le_refl _) _).trans (hb.mono (Nat.le_succ _))
theorem boxE_size (w : World) (x : Ev) (K : Option Addr) (c : Nat) : (boxE w x K c).heap.size = w.heap.size + 1 := by simp [boxE]
theorem getD_opt (l : List Int) (k : Nat) : l.getD k 0 = l[k]?.getD 0 := by simp [List.getD]

set_option maxHeartbeats 4000000 in
set_option maxRecDepth 100000 in
theorem landSummed (x : Ev) (K : Option Addr) (c : Nat) (w : World) (hx : EvOk w x K c) (hids : idsOk x.ids 64 = true) :
    Calls Try.prog 45 #[.agg #[.int .u64 x.time, .slice K x.ids.length c]] w (Made w (10 + x.ids.length) (bodyR x)) := by
  obtain ⟨i0, hi, hz0, hz1, hz2⟩ := info_parts info5'
  obtain ⟨ht0, ht1⟩ := wf_u64 hx.1
  have hcnt := ids_count hids
  have HX := Lib.hid hx
  have HI := Lib.hid (ids_bytes hids)
  obtain ⟨n, hn⟩ : ∃ n, x.ids.length = n := ⟨_, rfl⟩
  have HN := Lib.hid hn
  obtain ⟨b0, b1⟩ := boxE_at (Below.refl (w.heap.size + 1) (boxE w x K c))
  have hW : w.alloc (.cells #[.int .u64 x.time, .slice K x.ids.length c] 39) = boxE w x K c := rfl
  have hs1 := boxE_size w x K c
  rw [hn] at hW b1 hcnt ⊢
  have hn64 : n ≤ 64 := by omega
  have c1 : (8 : Int) + (n : Int) ≤ 72 := by omega
  obtain ⟨W1, hW1⟩ : ∃ W1, boxE w x K c = W1 := ⟨_, rfl⟩
  have HW1 := Lib.hid hW1
  rw [hW1] at hW hs1 b0 b1
  have f1 := landWrite2 (.slice none 0 0) 0 [] (8 + (n : Int)) (w.heap.size + 1) W1 (by omega) (by omega) (World.ownsRow_nil _ _ _ _) (by omega) (by omega)
  have F1 := Lib.hid f1
  clear f1 hx hids hW1 hn hcnt
  go_enter Try.func45, Try.ntmps45
  go_wp2_with fail
  clear hW
  refine F1.out.mono ?_
  rintro e w1 ⟨v1, rfl, hown1, hB1⟩
  have d0 := (hB1.cell (p := ⟨w.heap.size, 0, none⟩) (Nat.lt_succ_self _)).trans b0
  have d1 := (hB1.cell (p := ⟨w.heap.size, 1, none⟩) (Nat.lt_succ_self _)).trans b1
  have hz1' := hB1.size
  clear b0 b1
  have F2 := Lib.hid (landWrite8 v1 2 (be2 (8 + (n : Int))) x.time (w.heap.size + 1) w1 ht0 ht1 (by simpa using hown1) (by omega) (by omega))
  go_wp2_with fail
  refine F2.out.mono ?_
  rintro e w2 ⟨v2, rfl, hown2, hB2⟩
  have e0 := (hB2.cell (p := ⟨w.heap.size, 0, none⟩) (Nat.lt_succ_self _)).trans d0
  have e1 := (hB2.cell (p := ⟨w.heap.size, 1, none⟩) (Nat.lt_succ_self _)).trans d1
  have HB12 := Lib.hid (hB1.trans hB2)
  clear d0 d1 F1 F2 hown1 hB1
  go_wp2_with fail
  go_loopw [3, 19] (fun v i wr => ∃ k : Nat, k ≤ n ∧ i = .int .i64 k ∧ wr.ownsRow (w.heap.size + 1) 5 1 v (10 + k) ((be2 (8 + (n : Int)) ++ be8 x.time ++ x.ids.take k).map (Value.int .u8)) ∧ Below (w.heap.size + 1) W1 wr) (fun _ i _ => n - (intOf i).toNat)
  case atStart => exact ⟨0, Nat.zero_le _, rfl, by simpa using hown2, HB12.out⟩
  case round =>
    obtain ⟨k, hk, rfl, hrow, hBr⟩ := hrel
    have hBs : w.heap.size + 1 ≤ wr.heap.size := by have := hBr.size; omega
    have hbw : Below w.heap.size w wr := boxE_below (by rw [HW1.out]; exact hBr)
    clear e0 e1 hown2 hB2
    by_cases hkn : k < n
    · obtain ⟨b, off, e, hc⟩ := (HX.out.2.1.below hbw).cell (by rw [HN.out]; omega)
      have x0 := hc k (by rw [HN.out]; omega)
      subst e
      obtain ⟨z, hz⟩ : ∃ z, x.ids[k]?.getD 0 = z := ⟨_, rfl⟩
      have hkl : k < x.ids.length := by rw [HN.out]; exact hkn
      have hb := HI.out z (by rw [← hz, List.getElem?_eq_getElem hkl]; exact List.getElem_mem hkl)
      have HS := Lib.hid (take_snoc x.ids k hkl)
      rw [hz] at x0
      have HZ := Lib.hid hz
      have hb0 := hb.1
      have hb1 := hb.2
      clear hc hz hb
      go_wp2_with (at_builtin; refine wpList_append_ints rfl _ _ 29 rfl .u8 (w.heap.size + 1) 5 i0 1 Try.underlying29 hi hz0 hz1 hz2 _ _ _ rfl (hrow.alloc _) _ 1 1 [z] rfl (Rd.lit wr 5 (0, 0) [z] (one_byte (by omega))) (by have : maxLen = 9223372036854775807 := rfl; omega) (by omega) (le_alloc hBs) ?_; intro v2 w2 hown2 hgr2)
      go_roundw
      case rel => exact ⟨k + 1, by omega, by go_num, row_more (by omega) (by rw [HS.out, HZ.out]; simp) hown2, (hBr.alloc hBs _).grown hgr2 (le_alloc hBs) (fun z hz => (hrow.lt z hz).1)⟩
      case measure => simp [intOf]; omega
    · obtain rfl : k = n := by omega
      go_wp2
      go_ret
      refine ⟨_, rfl, row_more rfl ?_ (own_weaken hrow (Nat.le_succ _)), hbw⟩
      rw [List.take_of_length_le (by rw [HN.out]; omega)]
      unfold bodyR
      rw [HN.out]
end Go.Proofs.Ytgfifjcecpllbaa.Record

namespace Go.Proofs.Ytgfifjcecpllbaa.Record
open Go.RowKit Go.Proofs.Ytgfifjcecpllbaa.Ints Go.Proofs.Ytgfifjcecpllbaa.Mem Go.Proofs.Ytgfifjcecpllbaa.SumMath Go.Proofs.Ytgfifjcecpllbaa.SumWalks Go.Proofs.Ytgfifjcecpllbaa.Trace

/-- What a call that hands back bytes of its own leaves. -/
def GotBytes (w : World) (zs : List Int) (e : Ending) (w' : World) : Prop := Made w zs.length zs e w'
theorem made_in {w W w' : World} {n : Nat} {zs : List Int} {e : Ending} (hb : Below w.heap.size w W) (h : Made W n zs e w') : Made w n zs e w' := by
  obtain ⟨v', rfl, hown, hB⟩ := h
  exact ⟨v', rfl, own_weaken hown hb.size, hb.trans (hB.mono hb.size)⟩
/-- Such bytes as a slice. -/
theorem made_slice {w w' : World} {n : Nat} {zs : List Int} {e : Ending} (h : Made w n zs e w') (hz : ∀ z ∈ zs, (Lit.int .u8 z).wf = true) :
    ∃ A c, e = .returned (.slice A n c) ∧ Rd .u8 w' A n zs ∧ n ≤ c ∧ c ≤ maxLen ∧ (A = none → c = 0) ∧ w'.ownsRow w.heap.size 5 1 (.slice A n c) n (zs.map (Value.int .u8)) ∧ Below w.heap.size w w' := by
  obtain ⟨v', rfl, hown, hB⟩ := h
  obtain ⟨A, c, rfl, h1, h2, h3, h4⟩ := own_slice hown
  exact ⟨A, c, rfl, Rd.own hown hz, h1, h2, h3, hown, hB⟩

set_option maxHeartbeats 4000000 in
set_option maxRecDepth 100000 in
theorem landPut (A : Option Addr) (n c : Nat) (zs : List Int) (x : Ev) (K : Option Addr) (k : Nat) (w : World) (hA : A = none → c = 0) (hnc : n ≤ c) (hn : n ≤ 140737488351232) (h : Rd .u8 w A n zs) (hx : EvOk w x K k) :
    Calls Try.prog 26 #[.slice A n c, .agg #[.int .u64 x.time, .slice K x.ids.length k]] w (GotBytes w (putR zs x)) := by
  have hz := h.len
  obtain ⟨b0, b1⟩ := boxE_at (Below.refl (w.heap.size + 1) (boxE w x K k))
  have hb1 : Below w.heap.size w (boxE w x K k) := boxE_below (Below.refl _ _)
  have hW : w.alloc (.cells #[.int .u64 x.time, .slice K x.ids.length k] 39) = boxE w x K k := rfl
  have hs1 := boxE_size w x K k
  have hx1 := hx.below hb1
  have h1 := h.below hb1
  have FR := landRising K x.ids.length k 64 x.ids (boxE w x K k) hx1.2.1 (by have := hx1.2.2; omega)
  obtain ⟨W1, hW1⟩ : ∃ W1, boxE w x K k = W1 := ⟨_, rfl⟩
  rw [hW1] at hW hs1 b0 b1 hb1 FR hx1 h1
  have HR := Lib.hid FR
  have HW := Lib.hid hW1
  clear FR hW1 hx h
  obtain ⟨m, hm⟩ : ∃ m, x.ids.length = m := ⟨_, rfl⟩
  by_cases hok : idsOk x.ids 64 = true
  · have hp : putR zs x = zs ++ recR x := by unfold putR; rw [if_pos hok]
    have hcnt := ids_count hok
    have hS := landSummed x K k W1 hx1 hok
    have hrl := rec_len x
    rw [hok] at HR
    unfold GotBytes
    rw [hp, List.length_append, hz, hrl]
    rw [hm] at HR hS hW b1 hcnt ⊢
    have HS := Lib.hid hS
    have HB := Lib.hid hb1
    have H1 := Lib.hid h1
    have hm64 : m ≤ 64 := by omega
    clear hS hb1 hx1 h1 hp hrl hz hcnt
    have hwf := Lib.hid (u8_all (body_bytes hok))
    have hwf2 := Lib.hid (u8_all (rec_bytes hok))
    go_enter Try.func26, Try.ntmps26
    go_wp2_with fail
    refine HR.out.mono ?_
    rintro e w' ⟨rfl, rfl⟩
    go_wp2_with fail
    refine HS.out.mono ?_
    intro e w2 hmade
    obtain ⟨A2, c2, rfl, hr2, hc2, hm2, -, -, hB2⟩ := made_slice hmade hwf.out
    clear hmade
    have FP := Lib.hid (sumPut A2 (10 + m) c2 (bodyR x) w2 hc2 hm2 (by omega) hr2)
    clear hr2
    go_wp2_with fail
    refine FP.out.mono ?_
    intro e w3 hmade
    obtain ⟨A3, c3, rfl, hr3, hc3, hm3, -, -, hB3⟩ := made_slice hmade hwf2.out
    clear hmade FP
    have hB4 : Below w.heap.size w w3 := (HB.out.trans (hB2.mono HB.out.size)).trans (hB3.mono (Nat.le_trans HB.out.size hB2.size))
    have hB5 : Below w.heap.size w (w3.alloc (.cells #[.slice A n c, .slice A3 (10 + m + 4) c3] 29)) := hB4.alloc hB4.size _
    have FC := Lib.hid (concat2 w3.heap.size A A3 n c (10 + m + 4) c3 zs (recR x) (w3.alloc (.cells #[.slice A n c, .slice A3 (10 + m + 4) c3] 29)) (box_cell 0 _ rfl) (box_cell 1 _ rfl) ((H1.out.below (by rw [hs1]; exact (hB2.mono (by omega)).trans (hB3.mono (by have := hB2.size; omega)))).alloc _) (hr3.alloc _) (by omega) (by omega))
    go_wp2_with fail
    refine FC.out.mono ?_
    intro e w5 hmade
    obtain ⟨v5, rfl, hown, hB6⟩ := made_in hB5 hmade
    go_wp2
    go_ret
    exact ⟨_, rfl, row_more (by omega) rfl hown, hB6⟩
  · have hok' : idsOk x.ids 64 = false := by simpa using hok
    have hp : putR zs x = zs := by unfold putR; rw [if_neg hok]
    rw [hok'] at HR
    unfold GotBytes
    rw [hp, hz]
    rw [hm] at HR hW b1 ⊢
    have FC := Lib.hid (clone A n c zs W1 hA hnc (by omega) h1)
    have HB := Lib.hid hb1
    clear hb1 hx1 h1 hp hz
    go_enter Try.func26, Try.ntmps26
    go_wp2_with fail
    refine HR.out.mono ?_
    rintro e w' ⟨rfl, rfl⟩
    go_wp2_with fail
    refine FC.out.mono ?_
    intro e w5 hmade
    obtain ⟨v5, rfl, hown, hB6⟩ := made_in HB.out hmade
    go_wp2
    go_ret
    exact ⟨_, rfl, hown, hB6⟩
end Go.Proofs.Ytgfifjcecpllbaa.Record

namespace Go.Proofs.Ytgfifjcecpllbaa.Trace
open Go.RowKit Go.Proofs.Ytgfifjcecpllbaa.Ints Go.Proofs.Ytgfifjcecpllbaa.Mem

set_option maxHeartbeats 4000000 in
set_option maxRecDepth 100000 in
theorem refIds (A : Option Addr) (n c : Nat) (p : Int) (l : List Int) (w : World) (h : Rd .i64 w A n l) (hm : n ≤ maxLen) (hp : small64 p) :
    Calls Try.prog 33 #[.slice A n c, .int .i64 p] w fun e w' => e = .returned (.bool (idsOk l p)) ∧ w' = w := by
  have hni : (n : Int) ≤ 9223372036854775807 := by have : maxLen = 9223372036854775807 := rfl; omega
  obtain ⟨hp1, hp2⟩ := hp
  have HD := Lib.hid h
  have HL := Lib.hid h.len
  clear h hm
  go_enter Try.func33, Try.ntmps33
  go_wp2
  go_loop [9] (fun i => ∃ k : Nat, k ≤ n ∧ i = .int .i64 k ∧ Hid (∀ j, j < k → IdGood l p j)) (fun i => n - (intOf i).toNat)
  case atStart => exact ⟨0, Nat.zero_le _, rfl, fun j hj => absurd hj (by omega)⟩
  case round =>
    obtain ⟨k, hk, rfl, HG⟩ := hrel
    by_cases hkn : k < n
    · have hkn' : (k : Int) < (n : Int) := by omega
      obtain ⟨b, off, e, hc⟩ := HD.out.cell (by omega)
      have x0 := hc k hkn
      have hw := wf_i64 (HD.out.wf k hkn)
      have hgk : l.getD k 0 = l[k]?.getD 0 := by simp [List.getD]
      have hlen : k < l.length := by have := HL.out; omega
      obtain ⟨x, hx⟩ : ∃ x, l[k]?.getD 0 = x := ⟨_, rfl⟩
      rw [hx] at x0 hw hgk
      obtain ⟨hw1, hw2⟩ := hw
      subst e
      by_cases h1 : x < 0
      · have HR := Lib.hid (ids_no (p := p) hlen (fun e => by have := e.1; rw [hgk] at this; omega))
        clear hgk hlen hx hc
        go_wp2
        go_ret
        exact ⟨by rw [HR.out]; rfl, rfl⟩
      · have h1' : decide (x < 0) = false := decide_eq_false h1
        by_cases h2 : p ≤ x
        · have h2' : decide (x ≥ p) = true := decide_eq_true h2
          have HR := Lib.hid (ids_no (p := p) hlen (fun e => by have := e.2.1; rw [hgk] at this; omega))
          clear hgk hlen hx hc
          go_wp2
          go_ret
          exact ⟨by rw [HR.out]; rfl, rfl⟩
        · have h2' : decide (x ≥ p) = false := decide_eq_false h2
          by_cases h0 : k = 0
          · have HZ := Lib.hid (good_more HG.out (p := IdGood l p) (k := k) ⟨by rw [hgk]; omega, by rw [hgk]; omega, fun h => absurd h (by omega)⟩)
            clear hgk hlen hx hc
            subst h0
            rw [Nat.add_zero] at x0
            have hn0 : (0 : Int) < (n : Int) := by omega
            go_wp2
            go_round
            case rel => exact ⟨1, by omega, by go_num, HZ⟩
            case measure => simp [intOf]; omega
          · have h0' : decide ((k : Int) > 0) = true := by simp; omega
            have y0 := hc (k - 1) (by omega)
            have hgk2 : l.getD (k - 1) 0 = l[k - 1]?.getD 0 := by simp [List.getD]
            obtain ⟨y, hy⟩ : ∃ y, l[k - 1]?.getD 0 = y := ⟨_, rfl⟩
            rw [hy] at y0 hgk2
            have hk1 : (k : Int) - 1 = ((k - 1 : Nat) : Int) := by omega
            have hk2 : ((k - 1 : Nat) : Int) < (n : Int) := by omega
            by_cases h3 : x ≤ y
            · have HR := Lib.hid (ids_no (p := p) hlen (fun e => by have := e.2.2 (by omega); rw [hgk, hgk2] at this; omega))
              clear hgk hgk2 hlen hx hy hc
              go_wp2
              go_ret
              exact ⟨by rw [HR.out]; rfl, rfl⟩
            · have h3' : decide (x ≤ y) = false := decide_eq_false h3
              have HZ := Lib.hid (good_more HG.out (p := IdGood l p) (k := k) ⟨by rw [hgk]; omega, by rw [hgk]; omega, fun _ => by rw [hgk, hgk2]; omega⟩)
              clear hgk hgk2 hlen hx hy hc
              go_wp2
              go_round
              case rel => exact ⟨k + 1, by omega, by go_num, HZ⟩
              case measure => simp [intOf]; omega
    · have hge : decide ((k : Int) < (n : Int)) = false := by simp; omega
      have HR := Lib.hid (ids_yes (l := l) (p := p) (fun j hj => HG.out j (by have := HL.out; omega)))
      go_wp2
      go_ret
      exact ⟨by rw [HR.out]; rfl, rfl⟩
end Go.Proofs.Ytgfifjcecpllbaa.Trace
