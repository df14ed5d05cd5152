/-
  The walk of the landed Put. By an AI agent.
-/
import Derived.Test.YtpcahfjejbiocaaRecordLand2
namespace Go.Proofs.Ytpcahfjejbiocaa.Record
open Go.RowKit Go.Proofs.Ytpcahfjejbiocaa.Ints Go.Proofs.Ytpcahfjejbiocaa.Mem Go.Proofs.Ytpcahfjejbiocaa.SumMath Go.Proofs.Ytpcahfjejbiocaa.SumWalks Go.Proofs.Ytpcahfjejbiocaa.Trace

/-- What a call that hands back bytes of its own leaves. -/
def GotBytes (w : World) (zs : List Int) (e : Ending) (w' : World) : Prop := Made w zs.length zs e w'
theorem made_in {w W w' : World} {n : Nat} {zs : List Int} {e : Ending} (hb : Below w.heap.size w W) (h : Made W n zs e w') : Made w n zs e w' := by
  obtain ⟨v', rfl, hown, hB⟩ := h
  exact ⟨v', rfl, own_weaken hown hb.size, hb.trans (hB.mono hb.size)⟩
/-- Such bytes as a slice. -/
theorem made_slice {w w' : World} {n : Nat} {zs : List Int} {e : Ending} (h : Made w n zs e w') (hz : ∀ z ∈ zs, (Lit.int .u8 z).wf = true) :
    ∃ A c, e = .returned (.slice A n c) ∧ Rd .u8 w' A n zs ∧ n ≤ c ∧ c ≤ maxLen ∧ (A = none → c = 0) ∧ w'.ownsRow w.heap.size 5 1 (.slice A n c) n (zs.map (Value.int .u8)) ∧ Below w.heap.size w w' := by
  obtain ⟨v', rfl, hown, hB⟩ := h
  obtain ⟨A, c, rfl, h1, h2, h3, h4⟩ := own_slice hown
  exact ⟨A, c, rfl, Rd.own hown hz, h1, h2, h3, hown, hB⟩

set_option maxHeartbeats 4000000 in
set_option maxRecDepth 100000 in
theorem landPut (A : Option Addr) (n c : Nat) (zs : List Int) (x : Ev) (K : Option Addr) (k : Nat) (w : World) (hA : A = none → c = 0) (hnc : n ≤ c) (hn : n ≤ 140737488351232) (h : Rd .u8 w A n zs) (hx : EvOk w x K k) :
    Calls Try.prog 10 #[.slice A n c, .agg #[.int .u64 x.time, .slice K x.ids.length k]] w (GotBytes w (putR zs x)) := by
  have hz := h.len
  obtain ⟨b0, b1⟩ := boxE_at (Below.refl (w.heap.size + 1) (boxE w x K k))
  have hb1 : Below w.heap.size w (boxE w x K k) := boxE_below (Below.refl _ _)
  have hW : w.alloc (.cells #[.int .u64 x.time, .slice K x.ids.length k] 26) = boxE w x K k := rfl
  have hs1 := boxE_size w x K k
  have hx1 := hx.below hb1
  have h1 := h.below hb1
  have FR := landRising K x.ids.length k 64 x.ids (boxE w x K k) hx1.2.1 (by have := hx1.2.2; omega)
  obtain ⟨W1, hW1⟩ : ∃ W1, boxE w x K k = W1 := ⟨_, rfl⟩
  rw [hW1] at hW hs1 b0 b1 hb1 FR hx1 h1
  have HR := Lib.hid FR
  have HW := Lib.hid hW1
  clear FR hW1 hx h
  obtain ⟨m, hm⟩ : ∃ m, x.ids.length = m := ⟨_, rfl⟩
  by_cases hok : idsOk x.ids 64 = true
  · have hp : putR zs x = zs ++ recR x := by unfold putR; rw [if_pos hok]
    have hcnt := ids_count hok
    have hS := landSummed x K k W1 hx1 hok
    have hrl := rec_len x
    rw [hok] at HR
    unfold GotBytes
    rw [hp, List.length_append, hz, hrl]
    rw [hm] at HR hS hW b1 hcnt ⊢
    have HS := Lib.hid hS
    have HB := Lib.hid hb1
    have H1 := Lib.hid h1
    have hm64 : m ≤ 64 := by omega
    clear hS hb1 hx1 h1 hp hrl hz hcnt
    have hwf := Lib.hid (u8_all (body_bytes hok))
    have hwf2 := Lib.hid (u8_all (rec_bytes hok))
    go_enter Try.func10, Try.ntmps10
    go_wp2_with fail
    refine HR.out.mono ?_
    rintro e w' ⟨rfl, rfl⟩
    go_wp2_with fail
    refine HS.out.mono ?_
    intro e w2 hmade
    obtain ⟨A2, c2, rfl, hr2, hc2, hm2, -, -, hB2⟩ := made_slice hmade hwf.out
    clear hmade
    have FP := Lib.hid (sumPut A2 (10 + m) c2 (bodyR x) w2 hc2 hm2 (by omega) hr2)
    clear hr2
    go_wp2_with fail
    refine FP.out.mono ?_
    intro e w3 hmade
    obtain ⟨A3, c3, rfl, hr3, hc3, hm3, -, -, hB3⟩ := made_slice hmade hwf2.out
    clear hmade FP
    have hB4 : Below w.heap.size w w3 := (HB.out.trans (hB2.mono HB.out.size)).trans (hB3.mono (Nat.le_trans HB.out.size hB2.size))
    have hB5 : Below w.heap.size w (w3.alloc (.cells #[.slice A n c, .slice A3 (10 + m + 4) c3] 22)) := hB4.alloc hB4.size _
    have FC := Lib.hid (concat2 w3.heap.size A A3 n c (10 + m + 4) c3 zs (recR x) (w3.alloc (.cells #[.slice A n c, .slice A3 (10 + m + 4) c3] 22)) (box_cell 0 _ rfl) (box_cell 1 _ rfl) ((H1.out.below (by rw [hs1]; exact (hB2.mono (by omega)).trans (hB3.mono (by have := hB2.size; omega)))).alloc _) (hr3.alloc _) (by omega) (by omega))
    go_wp2_with fail
    refine FC.out.mono ?_
    intro e w5 hmade
    obtain ⟨v5, rfl, hown, hB6⟩ := made_in hB5 hmade
    go_wp2
    go_ret
    exact ⟨_, rfl, row_more (by omega) rfl hown, hB6⟩
  · have hok' : idsOk x.ids 64 = false := by simpa using hok
    have hp : putR zs x = zs := by unfold putR; rw [if_neg hok]
    rw [hok'] at HR
    unfold GotBytes
    rw [hp, hz]
    rw [hm] at HR hW b1 ⊢
    have FC := Lib.hid (clone A n c zs W1 hA hnc (by omega) h1)
    have HB := Lib.hid hb1
    clear hb1 hx1 h1 hp hz
    go_enter Try.func10, Try.ntmps10
    go_wp2_with fail
    refine HR.out.mono ?_
    rintro e w' ⟨rfl, rfl⟩
    go_wp2_with fail
    refine FC.out.mono ?_
    intro e w5 hmade
    obtain ⟨v5, rfl, hown, hB6⟩ := made_in HB.out hmade
    go_wp2
    go_ret
    exact ⟨_, rfl, hown, hB6⟩
end Go.Proofs.Ytpcahfjejbiocaa.Record
