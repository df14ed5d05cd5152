/-
  The walk of the landed Put. By an AI agent.
  The walk of the reference's Ids. By an AI agent.
  The walk of the reference's Put. By an AI agent.
-/
import Derived.Test.YtimbbfneaaglbaaGreatGHeadsPlays12
import Derived.Test.YtimbbfneaaglbaaGreatGHeadsPlays2
namespace Go.Proofs.YtimbbfneaaglbaaGreat.Record
open Go.RowKit Go.Proofs.YtimbbfneaaglbaaGreat.Ints Go.Proofs.YtimbbfneaaglbaaGreat.Mem Go.Proofs.YtimbbfneaaglbaaGreat.SumMath Go.Proofs.YtimbbfneaaglbaaGreat.SumWalks Go.Proofs.YtimbbfneaaglbaaGreat.Trace

/-- What a call that hands back bytes of its own leaves. -/
def GotBytes (w : World) (zs : List Int) (e : Ending) (w' : World) : Prop := Made w zs.length zs e w'
theorem made_in {w W w' : World} {n : Nat} {zs : List Int} {e : Ending} (hb : Below w.heap.size w W) (h : Made W n zs e w') : Made w n zs e w' := by
  obtain ⟨v', rfl, hown, hB⟩ := h
  exact ⟨v', rfl, own_weaken hown hb.size, hb.trans (hB.mono hb.size)⟩
/-- Such bytes as a slice. -/
theorem made_slice {w w' : World} {n : Nat} {zs : List Int} {e : Ending} (h : Made w n zs e w') (hz : ∀ z ∈ zs, (Lit.int .u8 z).wf = true) :
    ∃ A c, e = .returned (.slice A n c) ∧ Rd .u8 w' A n zs ∧ n ≤ c ∧ c ≤ maxLen ∧ (A = none → c = 0) ∧ w'.ownsRow w.heap.size 5 1 (.slice A n c) n (zs.map (Value.int .u8)) ∧ Below w.heap.size w w' := by
  obtain ⟨v', rfl, hown, hB⟩ := h
  obtain ⟨A, c, rfl, h1, h2, h3, h4⟩ := own_slice hown
  exact ⟨A, c, rfl, Rd.own hown hz, h1, h2, h3, hown, hB⟩

set_option maxHeartbeats 4000000 in
set_option maxRecDepth 100000 in
theorem landPut (A : Option Addr) (n c : Nat) (zs : List Int) (x : Ev) (K : Option Addr) (k : Nat) (w : World) (hA : A = none → c = 0) (hnc : n ≤ c) (hn : n ≤ 140737488351232) (h : Rd .u8 w A n zs) (hx : EvOk w x K k) :
    Calls Tryz.prog 35 #[.slice A n c, .agg #[.int .u64 x.time, .slice K x.ids.length k]] w (GotBytes w (putR zs x)) := by
  have hz := h.len
  obtain ⟨b0, b1⟩ := boxE_at (Below.refl (w.heap.size + 1) (boxE w x K k))
  have hb1 : Below w.heap.size w (boxE w x K k) := boxE_below (Below.refl _ _)
  have hW : w.alloc (.cells #[.int .u64 x.time, .slice K x.ids.length k] 38) = boxE w x K k := rfl
  have hs1 := boxE_size w x K k
  have hx1 := hx.below hb1
  have h1 := h.below hb1
  have FR := landRising K x.ids.length k 64 x.ids (boxE w x K k) hx1.2.1 (by have := hx1.2.2; omega)
  obtain ⟨W1, hW1⟩ : ∃ W1, boxE w x K k = W1 := ⟨_, rfl⟩
  rw [hW1] at hW hs1 b0 b1 hb1 FR hx1 h1
  have HR := Lib.hid FR
  have HW := Lib.hid hW1
  clear FR hW1 hx h
  obtain ⟨m, hm⟩ : ∃ m, x.ids.length = m := ⟨_, rfl⟩
  by_cases hok : idsOk x.ids 64 = true
  · have hp : putR zs x = zs ++ recR x := by unfold putR; rw [if_pos hok]
    have hcnt := ids_count hok
    have hS := landSummed x K k W1 hx1 hok
    have hrl := rec_len x
    rw [hok] at HR
    unfold GotBytes
    rw [hp, List.length_append, hz, hrl]
    rw [hm] at HR hS hW b1 hcnt ⊢
    have HS := Lib.hid hS
    have HB := Lib.hid hb1
    have H1 := Lib.hid h1
    have hm64 : m ≤ 64 := by omega
    clear hS hb1 hx1 h1 hp hrl hz hcnt
    have hwf := Lib.hid (u8_all (body_bytes hok))
    have hwf2 := Lib.hid (u8_all (rec_bytes hok))
    go_enter Tryz.func35, Tryz.ntmps35
    go_wp2_with fail
    refine HR.out.mono ?_
    rintro e w' ⟨rfl, rfl⟩
    go_wp2_with fail
    refine HS.out.mono ?_
    intro e w2 hmade
    obtain ⟨A2, c2, rfl, hr2, hc2, hm2, -, -, hB2⟩ := made_slice hmade hwf.out
    clear hmade
    have FP := Lib.hid (sumPut A2 (10 + m) c2 (bodyR x) w2 hc2 hm2 (by omega) hr2)
    clear hr2
    go_wp2_with fail
    refine FP.out.mono ?_
    intro e w3 hmade
    obtain ⟨A3, c3, rfl, hr3, hc3, hm3, -, -, hB3⟩ := made_slice hmade hwf2.out
    clear hmade FP
    have hB4 : Below w.heap.size w w3 := (HB.out.trans (hB2.mono HB.out.size)).trans (hB3.mono (Nat.le_trans HB.out.size hB2.size))
    have hB5 : Below w.heap.size w (w3.alloc (.cells #[.slice A n c, .slice A3 (10 + m + 4) c3] 28)) := hB4.alloc hB4.size _
    have FC := Lib.hid (concat2 w3.heap.size A A3 n c (10 + m + 4) c3 zs (recR x) (w3.alloc (.cells #[.slice A n c, .slice A3 (10 + m + 4) c3] 28)) (box_cell 0 _ rfl) (box_cell 1 _ rfl) ((H1.out.below (by rw [hs1]; exact (hB2.mono (by omega)).trans (hB3.mono (by have := hB2.size; omega)))).alloc _) (hr3.alloc _) (by omega) (by omega))
    go_wp2_with fail
    refine FC.out.mono ?_
    intro e w5 hmade
    obtain ⟨v5, rfl, hown, hB6⟩ := made_in hB5 hmade
    go_wp2
    go_ret
    exact ⟨_, rfl, row_more (by omega) rfl hown, hB6⟩
  · have hok' : idsOk x.ids 64 = false := by simpa using hok
    have hp : putR zs x = zs := by unfold putR; rw [if_neg hok]
    rw [hok'] at HR
    unfold GotBytes
    rw [hp, hz]
    rw [hm] at HR hW b1 ⊢
    have FC := Lib.hid (clone A n c zs W1 hA hnc (by omega) h1)
    have HB := Lib.hid hb1
    clear hb1 hx1 h1 hp hz
    go_enter Tryz.func35, Tryz.ntmps35
    go_wp2_with fail
    refine HR.out.mono ?_
    rintro e w' ⟨rfl, rfl⟩
    go_wp2_with fail
    refine FC.out.mono ?_
    intro e w5 hmade
    obtain ⟨v5, rfl, hown, hB6⟩ := made_in HB.out hmade
    go_wp2
    go_ret
    exact ⟨_, rfl, hown, hB6⟩
end Go.Proofs.YtimbbfneaaglbaaGreat.Record

namespace Go.Proofs.YtimbbfneaaglbaaGreat.Trace
open Go.RowKit Go.Proofs.YtimbbfneaaglbaaGreat.Ints Go.Proofs.YtimbbfneaaglbaaGreat.Mem

set_option maxHeartbeats 4000000 in
set_option maxRecDepth 100000 in
theorem refIds (A : Option Addr) (n c : Nat) (p : Int) (l : List Int) (w : World) (h : Rd .i64 w A n l) (hm : n ≤ maxLen) (hp : small64 p) :
    Calls Tryz.prog 55 #[.slice A n c, .int .i64 p] w fun e w' => e = .returned (.bool (idsOk l p)) ∧ w' = w := by
  have hni : (n : Int) ≤ 9223372036854775807 := by have : maxLen = 9223372036854775807 := rfl; omega
  obtain ⟨hp1, hp2⟩ := hp
  have HD := Lib.hid h
  have HL := Lib.hid h.len
  clear h hm
  go_enter Tryz.func55, Tryz.ntmps55
  go_wp2
  go_loop [9] (fun i => ∃ k : Nat, k ≤ n ∧ i = .int .i64 k ∧ Hid (∀ j, j < k → IdGood l p j)) (fun i => n - (intOf i).toNat)
  case atStart => exact ⟨0, Nat.zero_le _, rfl, fun j hj => absurd hj (by omega)⟩
  case round =>
    obtain ⟨k, hk, rfl, HG⟩ := hrel
    by_cases hkn : k < n
    · have hkn' : (k : Int) < (n : Int) := by omega
      obtain ⟨b, off, e, hc⟩ := HD.out.cell (by omega)
      have x0 := hc k hkn
      have hw := wf_i64 (HD.out.wf k hkn)
      have hgk : l.getD k 0 = l[k]?.getD 0 := by simp [List.getD]
      have hlen : k < l.length := by have := HL.out; omega
      obtain ⟨x, hx⟩ : ∃ x, l[k]?.getD 0 = x := ⟨_, rfl⟩
      rw [hx] at x0 hw hgk
      obtain ⟨hw1, hw2⟩ := hw
      subst e
      by_cases h1 : x < 0
      · have HR := Lib.hid (ids_no (p := p) hlen (fun e => by have := e.1; rw [hgk] at this; omega))
        clear hgk hlen hx hc
        go_wp2
        go_ret
        exact ⟨by rw [HR.out]; rfl, rfl⟩
      · have h1' : decide (x < 0) = false := decide_eq_false h1
        by_cases h2 : p ≤ x
        · have h2' : decide (x ≥ p) = true := decide_eq_true h2
          have HR := Lib.hid (ids_no (p := p) hlen (fun e => by have := e.2.1; rw [hgk] at this; omega))
          clear hgk hlen hx hc
          go_wp2
          go_ret
          exact ⟨by rw [HR.out]; rfl, rfl⟩
        · have h2' : decide (x ≥ p) = false := decide_eq_false h2
          by_cases h0 : k = 0
          · have HZ := Lib.hid (good_more HG.out (p := IdGood l p) (k := k) ⟨by rw [hgk]; omega, by rw [hgk]; omega, fun h => absurd h (by omega)⟩)
            clear hgk hlen hx hc
            subst h0
            rw [Nat.add_zero] at x0
            have hn0 : (0 : Int) < (n : Int) := by omega
            go_wp2
            go_round
            case rel => exact ⟨1, by omega, by go_num, HZ⟩
            case measure => simp [intOf]; omega
          · have h0' : decide ((k : Int) > 0) = true := by simp; omega
            have y0 := hc (k - 1) (by omega)
            have hgk2 : l.getD (k - 1) 0 = l[k - 1]?.getD 0 := by simp [List.getD]
            obtain ⟨y, hy⟩ : ∃ y, l[k - 1]?.getD 0 = y := ⟨_, rfl⟩
            rw [hy] at y0 hgk2
            have hk1 : (k : Int) - 1 = ((k - 1 : Nat) : Int) := by omega
            have hk2 : ((k - 1 : Nat) : Int) < (n : Int) := by omega
            by_cases h3 : x ≤ y
            · have HR := Lib.hid (ids_no (p := p) hlen (fun e => by have := e.2.2 (by omega); rw [hgk, hgk2] at this; omega))
              clear hgk hgk2 hlen hx hy hc
              go_wp2
              go_ret
              exact ⟨by rw [HR.out]; rfl, rfl⟩
            · have h3' : decide (x ≤ y) = false := decide_eq_false h3
              have HZ := Lib.hid (good_more HG.out (p := IdGood l p) (k := k) ⟨by rw [hgk]; omega, by rw [hgk]; omega, fun _ => by rw [hgk, hgk2]; omega⟩)
              clear hgk hgk2 hlen hx hy hc
              go_wp2
              go_round
              case rel => exact ⟨k + 1, by omega, by go_num, HZ⟩
              case measure => simp [intOf]; omega
    · have hge : decide ((k : Int) < (n : Int)) = false := by simp; omega
      have HR := Lib.hid (ids_yes (l := l) (p := p) (fun j hj => HG.out j (by have := HL.out; omega)))
      go_wp2
      go_ret
      exact ⟨by rw [HR.out]; rfl, rfl⟩
end Go.Proofs.YtimbbfneaaglbaaGreat.Trace

namespace Go.Proofs.YtimbbfneaaglbaaGreat.Record
open Go.RowKit Go.Proofs.YtimbbfneaaglbaaGreat.Ints Go.Proofs.YtimbbfneaaglbaaGreat.Mem Go.Proofs.YtimbbfneaaglbaaGreat.SumMath Go.Proofs.YtimbbfneaaglbaaGreat.SumWalks Go.Proofs.YtimbbfneaaglbaaGreat.Trace

theorem own_lit (w : World) (base : Nat) (T : TypeId) (k : IntKind) (zs : List Int) (n : Nat) (hn : zs.length = n) (hm : n ≤ maxLen) (hb : base ≤ w.heap.size) :
    (w.alloc (.cells (zs.map (Value.int k)).toArray T)).ownsRow base T 1 (.slice (some ⟨w.heap.size, 0, none⟩) n n) n (zs.map (Value.int k)) :=
  ⟨by simp [hn], .inr ⟨w.heap.size, n, _, rfl, hb, heap_alloc_new w _, Nat.le_refl _, hm, by simp [hn], by rw [Nat.mul_one, List.take_of_length_le (by simp [hn])]⟩⟩

set_option maxHeartbeats 8000000 in
set_option maxRecDepth 100000 in
theorem refPutR (A : Option Addr) (n c : Nat) (zs : List Int) (x : Ev) (K : Option Addr) (k : Nat) (w : World) (_hnc : n ≤ c) (hn : n ≤ 140737488351232) (h : Rd .u8 w A n zs) (hx : EvOk w x K k) :
    Calls Tryz.prog 28 #[.slice A n c, .agg #[.int .u64 x.time, .slice K x.ids.length k]] w (GotBytes w (putR zs x)) := by
  obtain ⟨i0, hi, hz0, hz1, hz2⟩ := info_parts info5'
  have q63 : maxLen = 9223372036854775807 := rfl
  have hz := h.len
  obtain ⟨ht0, ht1⟩ := wf_u64 hx.1
  obtain ⟨b0, b1⟩ := boxE_at (Below.refl (w.heap.size + 1) (boxE w x K k))
  have hb1 : Below w.heap.size w (boxE w x K k) := boxE_below (Below.refl _ _)
  have hW : w.alloc (.cells #[.int .u64 x.time, .slice K x.ids.length k] 38) = boxE w x K k := rfl
  have hs1 := boxE_size w x K k
  have hx1 := hx.below hb1
  have h1 := h.below hb1
  have FR := refIds K x.ids.length k 64 x.ids (boxE w x K k) hx1.2.1 (by have := hx1.2.2; omega) ⟨by decide, by decide⟩
  obtain ⟨W1, hW1⟩ : ∃ W1, boxE w x K k = W1 := ⟨_, rfl⟩
  rw [hW1] at hW hs1 b0 b1 hb1 FR hx1 h1
  have HR := Lib.hid FR
  have HB := Lib.hid hb1
  have H1 := Lib.hid h1
  have HX1 := Lib.hid hx1
  clear FR hW1 hx h hb1 h1 hx1
  obtain ⟨m, hm⟩ : ∃ m, x.ids.length = m := ⟨_, rfl⟩
  by_cases hok : idsOk x.ids 64 = true
  · have hp : putR zs x = zs ++ recR x := by unfold putR; rw [if_pos hok]
    have hcnt := ids_count hok
    have hrl := rec_len x
    have hbl := body_len x
    rw [hok] at HR
    unfold GotBytes
    rw [hp, List.length_append, hz, hrl]
    rw [hm] at HR hW b1 hcnt hbl ⊢
    have HN := Lib.hid hm
    have hm64 : m ≤ 64 := by omega
    have HI := Lib.hid (ids_bytes hok)
    have HBL := Lib.hid hbl
    have hwf := Lib.hid (u8_all (body_bytes hok))
    have hwf2 := Lib.hid (u8_all (rec_bytes hok))
    have HZ := Lib.hid hz
    have hbd : bodyR x = be2 (8 + (m : Int)) ++ be8 x.time ++ x.ids := by unfold bodyR; rw [hm]
    have HBD := Lib.hid hbd
    have m1 : (8 : Int) + (m : Int) ≤ 72 := by omega
    have m2 : (8 + (m : Int)) / 256 = 0 := by omega
    have m3 : (8 + (m : Int)) % 256 = 8 + (m : Int) := by omega
    have HM2 := Lib.hid m2
    have HM3 := Lib.hid m3
    clear hp hrl hz hcnt hbl hm hok hbd m2 m3
    go_enter Tryz.func28, Tryz.ntmps28
    go_wp2_with fail
    refine HR.out.mono ?_
    rintro e w' ⟨rfl, rfl⟩
    go_wp2_with fail
    clear HR
    go_loopw [6, 28] (fun v i wr => ∃ (k : Nat) (z : Int), k ≤ 8 ∧ i = .int .i64 z ∧ z = k ∧ wr.ownsRow (w.heap.size + 1) 5 1 v (2 + k) ((be2 (8 + (m : Int)) ++ (be8 x.time).take k).map (Value.int .u8)) ∧ Below (w.heap.size + 1) w' wr) (fun _ i _ => 8 - (intOf i).toNat)
    case atStart =>
      refine ⟨0, 0, Nat.zero_le _, rfl, rfl, ?_, (Below.refl _ _).alloc (by omega) _⟩
      have := own_lit w' (w.heap.size + 1) 5 .u8 [(8 + (m : Int)) / 256, (8 + (m : Int)) % 256] 2 rfl (by decide) (by omega)
      rw [hs1] at this
      refine row_more rfl ?_ this
      show _ = be2 _ ++ []
      rw [List.append_nil]
      unfold be2
      rw [show (8 + (m : Int)) / 256 % 256 = (8 + (m : Int)) / 256 by omega]
    case round =>
      obtain ⟨k, z, hk, rfl, hzk, hrow, hBr⟩ := hrel
      have hBs : w.heap.size + 1 ≤ wr.heap.size := by have := hBr.size; omega
      have e0 := (hBr.cell (p := ⟨w.heap.size, 0, none⟩) (Nat.lt_succ_self _)).trans b0
      have e1 := (hBr.cell (p := ⟨w.heap.size, 1, none⟩) (Nat.lt_succ_self _)).trans b1
      clear b0 b1
      obtain rfl | rfl | rfl | rfl | rfl | rfl | rfl | rfl | rfl : k = 0 ∨ k = 1 ∨ k = 2 ∨ k = 3 ∨ k = 4 ∨ k = 5 ∨ k = 6 ∨ k = 7 ∨ k = 8 := by omega
      · obtain rfl : z = 0 := hzk
        go_wp2_with (at_builtin; refine wpList_append_ints rfl _ _ 28 rfl .u8 (w.heap.size + 1) 5 i0 1 Tryz.underlying28 hi hz0 hz1 hz2 _ _ _ rfl (hrow.alloc _) _ 1 1 [x.time / 72057594037927936] rfl (Rd.lit wr 5 (0, 0) [x.time / 72057594037927936] (one_byte (by omega))) (by omega) (by omega) (le_alloc hBs) ?_; intro v2 w2 hown2 hgr2)
        go_roundw
        case rel => exact ⟨1, 1, by omega, by go_num, rfl, row_more rfl (by simp [be8] <;> omega) hown2, (hBr.alloc hBs _).grown hgr2 (le_alloc hBs) (fun z hz => (hrow.lt z hz).1)⟩
        case measure => simp [intOf]
      · obtain rfl : z = 1 := hzk
        go_wp2_with (at_builtin; refine wpList_append_ints rfl _ _ 28 rfl .u8 (w.heap.size + 1) 5 i0 1 Tryz.underlying28 hi hz0 hz1 hz2 _ _ _ rfl (hrow.alloc _) _ 1 1 [x.time / 281474976710656 % 256] rfl (Rd.lit wr 5 (0, 0) [x.time / 281474976710656 % 256] (one_byte (by omega))) (by omega) (by omega) (le_alloc hBs) ?_; intro v2 w2 hown2 hgr2)
        go_roundw
        case rel => exact ⟨2, 2, by omega, by go_num, rfl, row_more rfl (by simp [be8] <;> omega) hown2, (hBr.alloc hBs _).grown hgr2 (le_alloc hBs) (fun z hz => (hrow.lt z hz).1)⟩
        case measure => simp [intOf]
      · obtain rfl : z = 2 := hzk
        go_wp2_with (at_builtin; refine wpList_append_ints rfl _ _ 28 rfl .u8 (w.heap.size + 1) 5 i0 1 Tryz.underlying28 hi hz0 hz1 hz2 _ _ _ rfl (hrow.alloc _) _ 1 1 [x.time / 1099511627776 % 256] rfl (Rd.lit wr 5 (0, 0) [x.time / 1099511627776 % 256] (one_byte (by omega))) (by omega) (by omega) (le_alloc hBs) ?_; intro v2 w2 hown2 hgr2)
        go_roundw
        case rel => exact ⟨3, 3, by omega, by go_num, rfl, row_more rfl (by simp [be8] <;> omega) hown2, (hBr.alloc hBs _).grown hgr2 (le_alloc hBs) (fun z hz => (hrow.lt z hz).1)⟩
        case measure => simp [intOf]
      · obtain rfl : z = 3 := hzk
        go_wp2_with (at_builtin; refine wpList_append_ints rfl _ _ 28 rfl .u8 (w.heap.size + 1) 5 i0 1 Tryz.underlying28 hi hz0 hz1 hz2 _ _ _ rfl (hrow.alloc _) _ 1 1 [x.time / 4294967296 % 256] rfl (Rd.lit wr 5 (0, 0) [x.time / 4294967296 % 256] (one_byte (by omega))) (by omega) (by omega) (le_alloc hBs) ?_; intro v2 w2 hown2 hgr2)
        go_roundw
        case rel => exact ⟨4, 4, by omega, by go_num, rfl, row_more rfl (by simp [be8] <;> omega) hown2, (hBr.alloc hBs _).grown hgr2 (le_alloc hBs) (fun z hz => (hrow.lt z hz).1)⟩
        case measure => simp [intOf]
      · obtain rfl : z = 4 := hzk
        go_wp2_with (at_builtin; refine wpList_append_ints rfl _ _ 28 rfl .u8 (w.heap.size + 1) 5 i0 1 Tryz.underlying28 hi hz0 hz1 hz2 _ _ _ rfl (hrow.alloc _) _ 1 1 [x.time / 16777216 % 256] rfl (Rd.lit wr 5 (0, 0) [x.time / 16777216 % 256] (one_byte (by omega))) (by omega) (by omega) (le_alloc hBs) ?_; intro v2 w2 hown2 hgr2)
        go_roundw
        case rel => exact ⟨5, 5, by omega, by go_num, rfl, row_more rfl (by simp [be8] <;> omega) hown2, (hBr.alloc hBs _).grown hgr2 (le_alloc hBs) (fun z hz => (hrow.lt z hz).1)⟩
        case measure => simp [intOf]
      · obtain rfl : z = 5 := hzk
        go_wp2_with (at_builtin; refine wpList_append_ints rfl _ _ 28 rfl .u8 (w.heap.size + 1) 5 i0 1 Tryz.underlying28 hi hz0 hz1 hz2 _ _ _ rfl (hrow.alloc _) _ 1 1 [x.time / 65536 % 256] rfl (Rd.lit wr 5 (0, 0) [x.time / 65536 % 256] (one_byte (by omega))) (by omega) (by omega) (le_alloc hBs) ?_; intro v2 w2 hown2 hgr2)
        go_roundw
        case rel => exact ⟨6, 6, by omega, by go_num, rfl, row_more rfl (by simp [be8] <;> omega) hown2, (hBr.alloc hBs _).grown hgr2 (le_alloc hBs) (fun z hz => (hrow.lt z hz).1)⟩
        case measure => simp [intOf]
      · obtain rfl : z = 6 := hzk
        go_wp2_with (at_builtin; refine wpList_append_ints rfl _ _ 28 rfl .u8 (w.heap.size + 1) 5 i0 1 Tryz.underlying28 hi hz0 hz1 hz2 _ _ _ rfl (hrow.alloc _) _ 1 1 [x.time / 256 % 256] rfl (Rd.lit wr 5 (0, 0) [x.time / 256 % 256] (one_byte (by omega))) (by omega) (by omega) (le_alloc hBs) ?_; intro v2 w2 hown2 hgr2)
        go_roundw
        case rel => exact ⟨7, 7, by omega, by go_num, rfl, row_more rfl (by simp [be8] <;> omega) hown2, (hBr.alloc hBs _).grown hgr2 (le_alloc hBs) (fun z hz => (hrow.lt z hz).1)⟩
        case measure => simp [intOf]
      · obtain rfl : z = 7 := hzk
        go_wp2_with (at_builtin; refine wpList_append_ints rfl _ _ 28 rfl .u8 (w.heap.size + 1) 5 i0 1 Tryz.underlying28 hi hz0 hz1 hz2 _ _ _ rfl (hrow.alloc _) _ 1 1 [x.time % 256] rfl (Rd.lit wr 5 (0, 0) [x.time % 256] (one_byte (by omega))) (by omega) (by omega) (le_alloc hBs) ?_; intro v2 w2 hown2 hgr2)
        go_roundw
        case rel => exact ⟨8, 8, by omega, by go_num, rfl, row_more rfl (by simp [be8] <;> omega) hown2, (hBr.alloc hBs _).grown hgr2 (le_alloc hBs) (fun z hz => (hrow.lt z hz).1)⟩
        case measure => simp [intOf]
      · obtain rfl : z = 8 := hzk
        have HBr := Lib.hid hBr
        have HROW := Lib.hid hrow
        clear hBr
        go_wp2_with fail
        go_loopw [6, 46] (fun v i wq => ∃ k : Nat, k ≤ m ∧ i = .int .i64 k ∧ wq.ownsRow (w.heap.size + 1) 5 1 v (10 + k) ((be2 (8 + (m : Int)) ++ be8 x.time ++ x.ids.take k).map (Value.int .u8)) ∧ Below (w.heap.size + 1) w' wq) (fun _ i _ => m - (intOf i).toNat)
        case atStart => exact ⟨0, Nat.zero_le _, rfl, row_more rfl (by simp [be8]) hrow, HBr.out⟩
        case round =>
          clear e0 e1 hrow HROW HBr hBs
          obtain ⟨k, hk, rfl, hrow, hBr⟩ := hrel
          have hBs : w.heap.size + 1 ≤ wr.heap.size := by have := hBr.size; omega
          have hBw : Below w'.heap.size w' wr := hBr.mono (by omega)
          by_cases hkm : k < m
          · obtain ⟨b, off, e, hc⟩ := (HX1.out.2.1.below hBw).cell (by rw [HN.out]; omega)
            have x0 := hc k (by rw [HN.out]; omega)
            subst e
            obtain ⟨z, hz⟩ : ∃ z, x.ids[k]?.getD 0 = z := ⟨_, rfl⟩
            have hkl : k < x.ids.length := by rw [HN.out]; exact hkm
            have hb := HI.out z (by rw [← hz, List.getElem?_eq_getElem hkl]; exact List.getElem_mem hkl)
            have HS := Lib.hid (take_snoc x.ids k hkl)
            rw [hz] at x0
            have HZ2 := Lib.hid hz
            have hb0 := hb.1
            have hb1 := hb.2
            clear hc hz hb
            go_wp2_with (at_builtin; refine wpList_append_ints rfl _ _ 28 rfl .u8 (w.heap.size + 1) 5 i0 1 Tryz.underlying28 hi hz0 hz1 hz2 _ _ _ rfl (hrow.alloc _) _ 1 1 [z] rfl (Rd.lit wr 5 (0, 0) [z] (one_byte (by omega))) (by omega) (by omega) (le_alloc hBs) ?_; intro v2 w2 hown2 hgr2)
            go_roundw
            case rel => exact ⟨k + 1, by omega, by go_num, row_more (by omega) (by rw [HS.out, HZ2.out]; simp) hown2, (hBr.alloc hBs _).grown hgr2 (le_alloc hBs) (fun z hz => (hrow.lt z hz).1)⟩
            case measure => simp [intOf]; omega
          · obtain rfl : k = m := by omega
            rw [List.take_of_length_le (by rw [HN.out]; omega), ← HBD.out] at hrow
            obtain ⟨A2, c2, rfl, hc2, hm2, -, -⟩ := own_slice hrow
            have HROW := Lib.hid hrow
            have HBW := Lib.hid hBw
            have HBr := Lib.hid hBr
            clear hrow hBr
            go_wp2_with (at_builtin; refine wpList_append_ints rfl _ _ 28 rfl .u8 (w.heap.size + 1) 5 i0 1 Tryz.underlying28 hi hz0 hz1 hz2 (.slice (some ⟨wr.heap.size, 0, none⟩) 0 0) 0 [] rfl (World.ownsRow_made wr #[] 0 hBs (by decide) rfl) _ _ _ zs rfl ((H1.out.below HBW.out).alloc _) (by omega) (by omega) (le_alloc hBs) ?_; intro v3 w3 hown3 hgr3)
            have hB3 : Below wr.heap.size wr w3 := ((Below.refl _ _).alloc (Nat.le_refl _) _).grown hgr3 (by simp) (by rintro q hq; simp [Value.ownBlock] at hq; omega)
            have hr2 := (Rd.own HROW.out hwf.out).below hB3
            have hrow3 : w3.ownsRow (w.heap.size + 1) 5 1 v3 n (zs.map (Value.int .u8)) := row_more (by omega) (by simp) hown3
            have HB3 := Lib.hid hB3
            have HR3 := Lib.hid hrow3
            clear hown3 hgr3 hB3 hrow3
            refine (refPut A2 (10 + k) c2 (bodyR x) w3 (by omega) hr2).mono ?_
            clear hr2
            intro e w4 hmade
            obtain ⟨A3, c3, rfl, hr3, hc3, hm3, -, -, hB4⟩ := made_slice hmade hwf2.out
            clear hmade
            have hrow4 := below_row HR3.out hB4
            have hsz : w.heap.size + 1 ≤ w4.heap.size := by have := HB3.out.size; have := hB4.size; omega
            have HB4 := Lib.hid hB4
            clear hB4
            go_wp2_with (at_builtin; refine wpList_append_ints rfl _ _ 28 rfl .u8 (w.heap.size + 1) 5 i0 1 Tryz.underlying28 hi hz0 hz1 hz2 _ n zs rfl hrow4 _ _ _ (recR x) rfl hr3 (by omega) (by omega) hsz ?_; intro v5 w5 hown5 hgr5)
            go_ret
            have hB5 : Below w.heap.size w wr := HB.out.trans (HBr.out.mono (Nat.le_succ _))
            have hB6 := (hB5.trans (HB3.out.mono hB5.size)).trans (HB4.out.mono (Nat.le_trans hB5.size HB3.out.size))
            exact ⟨_, rfl, row_more (by omega) rfl (own_weaken hown5 (Nat.le_succ _)), hB6.grown hgr5 hB6.size (fun q hq => by have := (hrow4.lt q hq).1; omega)⟩
  · have hok' : idsOk x.ids 64 = false := by simpa using hok
    have hp : putR zs x = zs := by unfold putR; rw [if_neg hok]
    rw [hok'] at HR
    unfold GotBytes
    rw [hp, hz]
    rw [hm] at HR hW b1 ⊢
    clear hp hz hok hok'
    go_enter Tryz.func28, Tryz.ntmps28
    go_wp2_with fail
    refine HR.out.mono ?_
    rintro e w' ⟨rfl, rfl⟩
    have hrow0 := World.ownsRow_made (e := 5) (size := 1) (base := w.heap.size + 1) w' #[] 0 (by omega) (by decide) rfl
    rw [hs1] at hrow0
    go_wp2_with (at_builtin; refine wpList_append_ints rfl _ _ 28 rfl .u8 (w.heap.size + 1) 5 i0 1 Tryz.underlying28 hi hz0 hz1 hz2 (.slice (some ⟨w.heap.size + 1, 0, none⟩) 0 0) 0 [] rfl hrow0 _ _ _ zs rfl (H1.out.alloc _) (by omega) (by omega) (le_alloc (by omega)) ?_; intro v5 w5 hown5 hgr5)
    go_ret
    exact ⟨_, rfl, row_more (by omega) (by simp) (own_weaken hown5 (Nat.le_succ _)), (HB.out.alloc HB.out.size _).grown hgr5 (le_alloc HB.out.size) (by rintro q hq; simp [Value.ownBlock] at hq; omega)⟩
end Go.Proofs.YtimbbfneaaglbaaGreat.Record
