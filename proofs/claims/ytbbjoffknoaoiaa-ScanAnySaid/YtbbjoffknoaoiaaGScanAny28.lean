/-
  The walk of the reference's Encode. By an AI agent.
-/
import Derived.Test.YtbbjoffknoaoiaaGScanAny18
import Derived.Test.YtbbjoffknoaoiaaGScanAny25
import Derived.Test.YtbbjoffknoaoiaaGScanAny9
import Derived.Test.YtbbjoffknoaoiaaGScanAny12
namespace Go.Proofs.Ytbbjoffknoaoiaa.Log
open Go.RowKit Go.Proofs.Ytbbjoffknoaoiaa.Ints Go.Proofs.Ytbbjoffknoaoiaa.Mem Go.Proofs.Ytbbjoffknoaoiaa.SumMath Go.Proofs.Ytbbjoffknoaoiaa.SumWalks Go.Proofs.Ytbbjoffknoaoiaa.Trace Go.Proofs.Ytbbjoffknoaoiaa.Record

theorem recs_next (es : List Ev) (k : Nat) (hk : k < es.length) : (es.take (k + 1)).flatMap recR = (es.take k).flatMap recR ++ recR (es.getD k noEv) := by
  rw [List.take_succ_eq_append_getElem hk, List.flatMap_append]
  simp [List.getD, hk]
theorem recs_len {es : List Ev} (h : ∀ e ∈ es, e.ids.length ≤ 64) : (es.flatMap recR).length ≤ 78 * es.length := by
  induction es with
  | nil => simp
  | cons e l ih =>
    rw [List.flatMap_cons, List.length_append, rec_len, List.length_cons]
    have h1 := h e (List.mem_cons_self ..)
    have h2 := ih (fun x hx => h x (List.mem_cons_of_mem _ hx))
    omega
theorem front_len {l : List (List UInt8)} (h : namesOk l = true) : (frontL l).length ≤ 1093 := by
  have h64 := ((namesOk_iff l).1 h).1
  have := flat_len (names := l) (m := 16) (fun s hs => (names_le h s hs).2)
  unfold frontL
  rw [List.length_append]
  have e : ([87, 71, 76, 1, (l.length : Int) % 256] : List Int).length = 5 := rfl
  omega
theorem head_len {l : List (List UInt8)} (h : namesOk l = true) : (headL l).length ≤ 1097 := by
  have := front_len h
  unfold headL
  rw [List.length_append]
  have e : ∀ s, (be4 s).length = 4 := fun s => rfl
  have := e (adn 1 (frontL l))
  omega
/-- The ids of a trace's events may be a record's. -/
theorem may_ids {t : Tr} (h : mayT t = true) {k : Nat} (hk : k < t.events.length) : idsOk (t.events.getD k noEv).ids t.names.length = true ∧ idsOk (t.events.getD k noEv).ids 64 = true := by
  rw [mayT_iff] at h
  have h1 := ((evsOk_iff _ _).1 h.2 k hk).1
  have h2 := ((namesOk_iff _).1 h.1).1
  exact ⟨h1, ids_wide (by omega) h1⟩
theorem may_len {t : Tr} (h : mayT t = true) : ∀ e ∈ t.events, e.ids.length ≤ 64 := by
  intro e he
  obtain ⟨k, hk, rfl⟩ := List.getElem_of_mem he
  have := ids_count (may_ids h hk).2
  have e1 : t.events.getD k noEv = t.events[k] := by simp [List.getD, hk]
  rw [e1] at this
  omega

set_option maxHeartbeats 4000000 in
set_option maxRecDepth 100000 in
theorem refEncode (NA : Option Addr) (nn nc : Nat) (EA : Option Addr) (ne ec : Nat) (t : Tr) (w : World) (h : TrOk Any w NA nn nc EA ne ec t) (hne : ne ≤ 1048576) :
    Calls Try.prog 11 #[.agg #[.slice NA nn nc, .slice EA ne ec]] w (GotBytes w (encL t)) := by
  have q63 : maxLen = 9223372036854775807 := rfl
  have HD := Lib.hid h
  have b0 := boxT_at (Below.refl (w.heap.size + 1) (boxT w NA nn nc EA ne ec))
  have hb1 : Below w.heap.size w (boxT w NA nn nc EA ne ec) := boxT_below (Below.refl _ _)
  have FM := refMay NA nn nc EA ne ec t (boxT w NA nn nc EA ne ec) (h.below hb1)
  obtain ⟨W1, hW1⟩ : ∃ W1, boxT w NA nn nc EA ne ec = W1 := ⟨_, rfl⟩
  have hs1 : W1.heap.size = w.heap.size + 1 := by rw [← hW1]; simp
  have hW : w.alloc (.cells #[.slice NA nn nc, .slice EA ne ec] 34) = W1 := hW1
  rw [hW1] at b0 hb1 FM
  obtain ⟨x0, x1⟩ := b0
  have HB1 := Lib.hid hb1
  rcases hm : mayT t
  · rw [hm] at FM
    have HM := Lib.hid FM
    have HE := Lib.hid (show encL t = [] by unfold encL; rw [hm]; rfl)
    clear hW1 h hm FM hb1
    go_enter Try.func11, Try.ntmps11
    go_wp2_with fail
    refine HM.out.mono ?_
    rintro e w2 ⟨rfl, hB2⟩
    go_wp2
    go_ret
    unfold GotBytes
    rw [HE.out]
    exact ⟨_, rfl, World.ownsRow_nil _ _ _ _, HB1.out.trans (hB2.mono HB1.out.size)⟩
  · rw [hm] at FM
    have HM := Lib.hid FM
    have hnames := (mayT_iff t).1 hm
    obtain ⟨E, hE⟩ : ∃ E : Nat → List Int, E = fun k => headL t.names ++ (t.events.take k).flatMap recR := ⟨_, rfl⟩
    have hE0 : E 0 = headL t.names := by rw [hE]; simp
    have hEn : E ne = encL t := by rw [hE]; unfold encL; rw [hm, if_pos rfl]; simp only; rw [List.take_of_length_le (by rw [h.elen]; exact Nat.le_refl _)]
    have hEs : ∀ k, k < ne → E (k + 1) = putR (E k) (t.events.getD k noEv) := fun k hk => by
      have hk2 : k < t.events.length := by rw [h.elen]; exact hk
      unfold putR
      rw [if_pos (may_ids hm hk2).2, hE]
      simp only
      rw [recs_next _ _ hk2, List.append_assoc]
    have hEl : ∀ k, k ≤ ne → (E k).length ≤ 100000000 := fun k hk => by
      rw [hE]
      simp only [List.length_append]
      have h1 := head_len hnames.1
      have h2 := recs_len (es := t.events.take k) (fun e he => may_len hm e (List.mem_of_mem_take he))
      have h3 : (t.events.take k).length ≤ ne := by rw [List.length_take]; have := h.elen; omega
      omega
    have hEb : ∀ k, k ≤ ne → ∀ z ∈ E k, (Lit.int .u8 z).wf = true := fun k hk z hz => by
      rw [hE] at hz
      rcases List.mem_append.1 hz with h1 | h1
      · exact u8_all (head_bytes _) z h1
      · obtain ⟨e, he, h2⟩ := List.mem_flatMap.1 h1
        obtain ⟨i, hi, rfl⟩ := List.getElem_of_mem (List.mem_of_mem_take he)
        have e1 : t.events.getD i noEv = t.events[i] := by simp [List.getD, hi]
        rw [← e1] at h2
        exact u8_all (rec_bytes (may_ids hm hi).2) z h2
    have HE0 := Lib.hid hE0
    have HEn := Lib.hid hEn
    have HEs := Lib.hid hEs
    have HEl := Lib.hid hEl
    have HEb := Lib.hid hEb
    have FH := Lib.hid (fun W (hb : Below w.heap.size w W) => refHeader NA nn nc t.names W h.nlen (by have := ((namesOk_iff _).1 hnames.1).1; rw [h.nlen] at this; exact this) (h.names.below hb) (fun s hs => (names_le hnames.1 s hs).2))
    have HMAY := Lib.hid hm
    clear hE hE0 hEn hEs hEl hEb hW1 h hm FM hb1 hnames
    go_enter Try.func11, Try.ntmps11
    go_wp2_with fail
    refine HM.out.mono ?_
    rintro e w2 ⟨rfl, hB2⟩
    have y0 := (hB2.cell (p := ⟨w.heap.size, 0, none⟩) (by rw [hs1]; exact Nat.lt_succ_self _)).trans x0
    have y1 := (hB2.cell (p := ⟨w.heap.size, 1, none⟩) (by rw [hs1]; exact Nat.lt_succ_self _)).trans x1
    have HB2 := Lib.hid (HB1.out.trans (hB2.mono HB1.out.size))
    have HW2 := Lib.hid (hB2)
    clear hB2 x0 x1
    go_wp2_with fail
    refine (FH.out w2 HB2.out).mono ?_
    intro e w3 hmade
    obtain ⟨v3, rfl, hown3, hB3⟩ := hmade
    have z0 := (hB3.cell (p := ⟨w.heap.size, 0, none⟩) (World.block_lt_of_cell? w2 _ y0)).trans y0
    have z1 := (hB3.cell (p := ⟨w.heap.size, 1, none⟩) (World.block_lt_of_cell? w2 _ y1)).trans y1
    have HB3 := Lib.hid (HB2.out.trans (hB3.mono HB2.out.size))
    have HO3 := Lib.hid (own_weaken hown3 HB2.out.size)
    clear hown3 hB3 y0 y1
    go_wp2_with fail
    go_loopw [3, 15] (fun v i wr => ∃ k : Nat, k ≤ ne ∧ i = .int .i64 k ∧ wr.ownsRow w.heap.size 5 1 v (E k).length ((E k).map (Value.int .u8)) ∧ Below w.heap.size w wr) (fun _ i _ => ne - (intOf i).toNat)
    case atStart => exact ⟨0, Nat.zero_le _, rfl, by rw [HE0.out]; exact HO3.out, HB3.out⟩
    case round =>
      obtain ⟨k, hk, rfl, hrow, hBr⟩ := hrel
      clear z0 z1
      by_cases hkn : k < ne
      · have HW := HD.out.below hBr
        obtain ⟨b, off, K, ck, rfl, c0, c1, hok⟩ := HW.evs.kids (k := k) (by rw [HW.elen]; exact hkn)
        have HN := Lib.hid (HEs.out k hkn)
        have hfl := HEl.out k hk
        obtain ⟨A2, c2, rfl, hc2, hm2, hA2, -⟩ := own_slice hrow
        have hrd := Rd.own hrow (HEb.out k hk)
        obtain ⟨ev, hev⟩ : ∃ ev, t.events.getD k noEv = ev := ⟨_, rfl⟩
        rw [hev] at c0 c1 hok HN
        obtain ⟨fl, hfl2⟩ : ∃ fl, (E k).length = fl := ⟨_, rfl⟩
        rw [hfl2] at hrd hc2 hfl
        have hal := (Below.refl _ wr).alloc (Nat.le_refl _) (.cells #[.int .u64 ev.time, .slice K ev.ids.length ck] 38)
        have FP := Lib.hid (refPutR A2 fl c2 (E k) ev K ck (wr.alloc (.cells #[.int .u64 ev.time, .slice K ev.ids.length ck] 38)) hc2 (by omega) (hrd.below hal) (hok.below hal))
        have HB4 := Lib.hid (hBr.trans (hal.mono hBr.size))
        have hbx := Blk.new wr #[.int .u64 ev.time, .slice K ev.ids.length ck] 38 [.int .u64 ev.time, .slice K ev.ids.length ck] rfl
        have y0 := hbx.cell 0 rfl
        have y1 := hbx.cell 1 rfl
        rw [hfl2]
        clear hev hfl2 hrow hrd hal HW hok hbx hBr
        go_wp2_with fail
        refine FP.out.mono ?_
        intro e w5 hmade
        obtain ⟨v5, rfl, hown5, hB5⟩ := hmade
        go_wp2
        go_roundw
        case rel => exact ⟨k + 1, by omega, by go_num, by rw [HN.out]; exact own_weaken hown5 HB4.out.size, HB4.out.trans (hB5.mono HB4.out.size)⟩
        case measure => simp [intOf]; omega
      · obtain rfl : k = ne := by omega
        go_wp2
        go_ret
        unfold GotBytes
        rw [← HEn.out]
        exact ⟨_, rfl, hrow, hBr⟩
end Go.Proofs.Ytbbjoffknoaoiaa.Log
