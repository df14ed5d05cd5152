/-
  The law's read: the landed Decode and Head, the reference's, and whether they tell the same. By an AI agent.
  The walk of the reference's Encode. By an AI agent.
-/
import Derived.Test.YtgfifjcecpllbaaGLogEncodes22
import Derived.Test.YtgfifjcecpllbaaGLogEncodes20
import Derived.Test.YtgfifjcecpllbaaGLogEncodes15
import Derived.Test.YtgfifjcecpllbaaGLogEncodes9
import Derived.Test.YtgfifjcecpllbaaGLogEncodes16
namespace Go.Proofs.Ytgfifjcecpllbaa.Log
open Go.RowKit Go.Proofs.Ytgfifjcecpllbaa.Ints Go.Proofs.Ytgfifjcecpllbaa.Mem Go.Proofs.Ytgfifjcecpllbaa.SumMath Go.Proofs.Ytgfifjcecpllbaa.SumWalks Go.Proofs.Ytgfifjcecpllbaa.Trace Go.Proofs.Ytgfifjcecpllbaa.Record

set_option maxHeartbeats 4000000 in
set_option maxRecDepth 100000 in
theorem lawRead (LD : ∀ (A : Option Addr) (n c : Nat) (zs : List Int) (w : World), n ≤ c → c ≤ maxLen → n ≤ 58000000 → Rd .u8 w A n zs → Calls Try.prog 19 #[.slice A n c] w (GotDec w zs))
    (LH : ∀ (A : Option Addr) (n c : Nat) (zs : List Int) (w : World), n ≤ c → c ≤ maxLen → n ≤ 58000000 → Rd .u8 w A n zs → Calls Try.prog 20 #[.slice A n c] w (GotHead w zs 5))
    (A : Option Addr) (n c : Nat) (zs : List Int) (w : World) (hnc : n ≤ c) (hc : c ≤ maxLen) (hn : n ≤ 58000000) (h : Rd .u8 w A n zs) :
    Calls Try.prog 15 #[.slice A n c] w fun e w' => e = .returned (.bool true) ∧ Below w.heap.size w w' := by
  have q63 : maxLen = 9223372036854775807 := rfl
  have FD := LD A n c zs w hnc hc hn h
  have HZ := Lib.hid h
  have HLH := Lib.hid (fun W (hb : Below w.heap.size w W) => LH A n c zs W hnc hc hn (h.below hb))
  have HRD := Lib.hid (fun W (hb : Below w.heap.size w W) => refDecode A n c zs W hnc hc hn (h.below hb))
  have HRH := Lib.hid (fun W (hb : Below w.heap.size w W) => refHead0 A n c zs W hnc hc (h.below hb))
  unfold GotHead at HLH HRH
  unfold GotDec at FD HRD
  obtain ⟨⟨ns, at_, eh⟩, hD⟩ : ∃ r, headD zs 5 = r := ⟨_, rfl⟩
  rw [hD] at HLH HRH
  simp only at HLH HRH
  obtain ⟨m, hm⟩ : ∃ m, ns.length = m := ⟨_, rfl⟩
  have hm64 : m ≤ 64 := by have := (head_names (b := zs) (miss := 5) (by decide)).1; rw [hD] at this; rw [← hm]; exact this
  rw [hm] at HLH HRH
  have HM := Lib.hid hm
  obtain ⟨t, ht⟩ : ∃ t, decT zs = t := ⟨_, rfl⟩
  obtain ⟨er, her⟩ : ∃ er, decE zs = er := ⟨_, rfl⟩
  rw [ht, her] at FD HRD
  obtain ⟨nn, hnn⟩ : ∃ nn, t.names.length = nn := ⟨_, rfl⟩
  obtain ⟨ne, hne⟩ : ∃ ne, t.events.length = ne := ⟨_, rfl⟩
  rw [hnn, hne] at FD HRD
  have HFD := Lib.hid FD
  clear FD h LD LH ht her
  go_enter Try.func15, Try.ntmps15
  go_wp2_with fail
  refine HFD.out.mono ?_
  rintro e w1 ⟨NA, nc, EA, ec, rfl, hok, hB1⟩
  have HB1 := Lib.hid hB1
  have HO1 := Lib.hid hok
  clear hB1 hok HFD
  have HB2 := Lib.hid (HB1.out.alloc HB1.out.size (.cells #[.slice NA nn nc, .slice EA ne ec] 25))
  have HT2 := Lib.hid (Blk.new w1 #[.slice NA nn nc, .slice EA ne ec] 25 [.slice NA nn nc, .slice EA ne ec] rfl)
  have HO2 := Lib.hid (TrOk.below HO1.out ((Below.refl _ w1).alloc (Nat.le_refl _) (.cells #[.slice NA nn nc, .slice EA ne ec] 25)))
  obtain ⟨w2, hw2⟩ : ∃ w2, w1.alloc (.cells #[.slice NA nn nc, .slice EA ne ec] 25) = w2 := ⟨_, rfl⟩
  rw [hw2] at HB2 HT2 HO2
  obtain ⟨g1, hg1⟩ : ∃ g1, w1.heap.size = g1 := ⟨_, rfl⟩
  rw [hg1] at HT2
  have HG1 := Lib.hid (show w.heap.size ≤ g1 by have := HB1.out.size; omega)
  have HW2 := Lib.hid hw2
  have HGG := Lib.hid hg1
  clear hg1 hw2
  go_wp2_with fail
  rw [HW2.out, HGG.out]
  refine (HRD.out w2 HB2.out).mono ?_
  rintro e w3 ⟨NB, mc, EB, fc, rfl, hok3, hB3⟩
  have HB4 := Lib.hid ((HB2.out.trans (hB3.mono HB2.out.size)).alloc (HB2.out.trans (hB3.mono HB2.out.size)).size (.cells #[.slice NB nn mc, .slice EB ne fc] 25))
  have HT4 := Lib.hid ((HT2.out.later hB3).alloc (.cells #[.slice NB nn mc, .slice EB ne fc] 25))
  have HU4 := Lib.hid (Blk.new w3 #[.slice NB nn mc, .slice EB ne fc] 25 [.slice NB nn mc, .slice EB ne fc] rfl)
  have HO4 := Lib.hid (TrOk.below HO2.out (hB3.alloc hB3.size (.cells #[.slice NB nn mc, .slice EB ne fc] 25)))
  have HV4 := Lib.hid (TrOk.below hok3 ((Below.refl _ w3).alloc (Nat.le_refl _) (.cells #[.slice NB nn mc, .slice EB ne fc] 25)))
  obtain ⟨w4, hw4⟩ : ∃ w4, w3.alloc (.cells #[.slice NB nn mc, .slice EB ne fc] 25) = w4 := ⟨_, rfl⟩
  rw [hw4] at HB4 HT4 HU4 HO4 HV4
  obtain ⟨g3, hg3⟩ : ∃ g3, w3.heap.size = g3 := ⟨_, rfl⟩
  rw [hg3] at HU4
  have HW4 := Lib.hid hw4
  have HG3 := Lib.hid hg3
  clear hg3 hw4 hok3 hB3 HT2 HO2 HO1 HRD
  go_wp2_with fail
  rw [HW4.out, HG3.out]
  refine (HLH.out w4 HB4.out).mono ?_
  rintro e w5 ⟨L5, c5, rfl, hown5, hB5⟩
  have HB5 := Lib.hid (HB4.out.trans (hB5.mono HB4.out.size))
  have HT5 := Lib.hid (HT4.out.later hB5)
  have HU5 := Lib.hid (HU4.out.later hB5)
  have HO5 := Lib.hid (TrOk.below HO4.out hB5)
  have HV5 := Lib.hid (TrOk.below HV4.out hB5)
  have HS5 := Lib.hid (strs_own hown5).2.1
  clear hown5 hB5 HT4 HU4 HO4 HV4 HLH
  go_wp2_with fail
  refine (HRH.out w5 HB5.out).mono ?_
  rintro e w6 ⟨L6, c6, rfl, hown6, hB6⟩
  have HB6 := Lib.hid (HB5.out.trans (hB6.mono HB5.out.size))
  have HT6 := Lib.hid (HT5.out.later hB6)
  have HU6 := Lib.hid (HU5.out.later hB6)
  have HO6 := Lib.hid (TrOk.below HO5.out hB6)
  have HV6 := Lib.hid (TrOk.below HV5.out hB6)
  have HS6 := Lib.hid (strs_own hown6).2.1
  have HR6 := Lib.hid (HS5.out.below hB6)
  clear hown6 hB6 HT5 HU5 HO5 HV5 HRH HS5
  go_wp2_with fail
  go_loopw [47] (fun i wr => ∃ k : Nat, k ≤ m ∧ i = .int .i64 k ∧ Below w6.heap.size w6 wr) (fun i _ => m - (intOf i).toNat)
  case atStart => exact ⟨0, Nat.zero_le _, rfl, Below.refl _ _⟩
  case round =>
    obtain ⟨k, hk, rfl, hBr⟩ := hrel
    by_cases hkm : k < m
    · obtain ⟨b5, o5, rfl, x5⟩ := strs_cell (HR6.out.below hBr) (k := k) (by rw [HM.out]; exact hkm)
      obtain ⟨b6, o6, rfl, x6⟩ := strs_cell (HS6.out.below hBr) (k := k) (by rw [HM.out]; exact hkm)
      have HBr := Lib.hid hBr
      obtain ⟨sb, hsb⟩ : ∃ sb : ByteArray, (⟨(ns.getD k []).toArray⟩ : ByteArray) = sb := ⟨_, rfl⟩
      rw [hsb] at x5 x6
      clear hBr hsb
      go_wp2_with fail
      refine wp_region_held_drew (S := fun W => W.cell? ⟨b5, o5 + k, none⟩ = some (.string sb) ∧ W.cell? ⟨b6, o6 + k, none⟩ = some (.string sb)) (by kernel_rfl) ⟨x5, x6⟩ (fun hHeld => ?_)
      refine wpAnyH_take (i := 0) (oi := ?tko1) (v := ?tkv1) ?tkh1 (by kernel_rfl) (by kernel_rfl) (by kernel_rfl) ?tkq1 ?tky1 hHeld ?tkr1
      case tkh1 => (simp only [List.getElem?_toArray, List.getElem?_cons_zero]; rfl)
      case tkq1 => exact fun _ _ _ h => h
      case tky1 => exact Or.inl ⟨by rfl, by intro wSw hSw; (try dsimp only at hSw); go_simp; try with_reducible rfl⟩
      try simp only [Act.put, List.setIfInBounds_toArray, List.set_cons_zero, List.set_cons_succ]
      refine wpAnyH_take (i := 1) (oi := ?tko2) (v := ?tkv2) ?tkh2 (by kernel_rfl) (by kernel_rfl) (by kernel_rfl) ?tkq2 ?tky2 hHeld ?tkr2
      case tkh2 => (simp only [List.getElem?_toArray, List.getElem?_cons_succ, List.getElem?_cons_zero]; rfl)
      case tkq2 => exact fun _ _ _ h => h
      case tky2 => exact Or.inl ⟨by rfl, by intro wSw hSw; (try dsimp only at hSw); go_simp; try with_reducible rfl⟩
      try simp only [Act.put, List.setIfInBounds_toArray, List.set_cons_zero, List.set_cons_succ]
      refine wpAnyH_take (i := 2) (oi := ?tko3) (v := ?tkv3) ?tkh3 (by kernel_rfl) (by kernel_rfl) (by kernel_rfl) ?tkq3 ?tky3 hHeld ?tkr3
      case tkh3 => (simp only [List.getElem?_toArray, List.getElem?_cons_succ, List.getElem?_cons_zero]; rfl)
      case tkq3 => exact fun _ _ _ h => h
      case tky3 => exact Or.inl ⟨by rfl, by intro wSw hSw; (try dsimp only at hSw); go_simp; try with_reducible rfl⟩
      try simp only [Act.put, List.setIfInBounds_toArray, List.set_cons_zero, List.set_cons_succ]
      refine wpAnyH_take (i := 3) (oi := ?tko4) (v := ?tkv4) ?tkh4 (by kernel_rfl) (by kernel_rfl) (by kernel_rfl) ?tkq4 ?tky4 hHeld ?tkr4
      case tkh4 => (simp only [List.getElem?_toArray, List.getElem?_cons_succ, List.getElem?_cons_zero]; rfl)
      case tkq4 => exact fun _ _ _ h => h
      case tky4 => exact Or.inl ⟨by rfl, by intro wSw hSw; (try dsimp only at hSw); go_simp; try with_reducible rfl⟩
      try simp only [Act.put, List.setIfInBounds_toArray, List.set_cons_zero, List.set_cons_succ]
      refine wpAnyH_take (i := 4) (oi := ?tko5) (v := ?tkv5) ?tkh5 (by kernel_rfl) (by kernel_rfl) (by kernel_rfl) ?tkq5 ?tky5 hHeld ?tkr5
      case tkh5 => (simp only [List.getElem?_toArray, List.getElem?_cons_succ, List.getElem?_cons_zero]; rfl)
      case tkq5 => exact fun _ _ _ h => h
      case tky5 => exact Or.inl ⟨by rfl, by intro wSw hSw; (try dsimp only at hSw); go_simp; try with_reducible rfl⟩
      try simp only [Act.put, List.setIfInBounds_toArray, List.set_cons_zero, List.set_cons_succ]
      refine wpAnyH_take (i := 5) (oi := ?tko6) (v := ?tkv6) ?tkh6 (by kernel_rfl) (by kernel_rfl) (by kernel_rfl) ?tkq6 ?tky6 hHeld ?tkr6
      case tkh6 => (simp only [List.getElem?_toArray, List.getElem?_cons_succ, List.getElem?_cons_zero]; rfl)
      case tkq6 => exact fun _ _ _ h => h
      case tky6 => exact Or.inl ⟨by rfl, by intro wSw hSw; (try dsimp only at hSw); go_simp; try with_reducible rfl⟩
      try simp only [Act.put, List.setIfInBounds_toArray, List.set_cons_zero, List.set_cons_succ]
      refine wpAnyH_take (i := 6) (oi := ?tko7) (v := ?tkv7) ?tkh7 (by kernel_rfl) (by kernel_rfl) (by kernel_rfl) ?tkq7 ?tky7 hHeld ?tkr7
      case tkh7 => (simp only [List.getElem?_toArray, List.getElem?_cons_succ, List.getElem?_cons_zero]; rfl)
      case tkq7 => exact fun _ _ _ h => h
      case tky7 => exact Or.inl ⟨by rfl, by intro wSw hSw; (try dsimp only at hSw); go_simp; try with_reducible rfl⟩
      try simp only [Act.put, List.setIfInBounds_toArray, List.set_cons_zero, List.set_cons_succ]
      refine wpAnyH_take (i := 7) (oi := ?tko8) (v := ?tkv8) ?tkh8 (by kernel_rfl) (by kernel_rfl) (by kernel_rfl) ?tkq8 ?tky8 hHeld ?tkr8
      case tkh8 => (simp only [List.getElem?_toArray, List.getElem?_cons_succ, List.getElem?_cons_zero]; rfl)
      case tkq8 => exact fun _ _ _ h => h
      case tky8 => exact Or.inl ⟨by rfl, by intro wSw hSw; (try dsimp only at hSw); go_simp; try with_reducible rfl⟩
      try simp only [Act.put, List.setIfInBounds_toArray, List.set_cons_zero, List.set_cons_succ]
      refine wpAnyH_take (i := 8) (oi := ?tko9) (v := ?tkv9) ?tkh9 (by kernel_rfl) (by kernel_rfl) (by kernel_rfl) ?tkq9 ?tky9 hHeld ?tkr9
      case tkh9 => (simp only [List.getElem?_toArray, List.getElem?_cons_succ, List.getElem?_cons_zero]; rfl)
      case tkq9 => exact fun _ _ _ h => h
      case tky9 => exact Or.inl ⟨by rfl, by intro wSw hSw; (try dsimp only at hSw); go_simp; try with_reducible rfl⟩
      try simp only [Act.put, List.setIfInBounds_toArray, List.set_cons_zero, List.set_cons_succ]
      refine wpAnyH_done (by kernel_rfl) ?_ _
      clear hHeld
      go_wp2_with fail
      go_roundw
      case rel => exact ⟨k + 1, by omega, by go_num, HBr.out.drew⟩
      case measure => simp [intOf]; omega
    · obtain rfl : k = m := by omega
      have hT := HT6.out.later hBr
      have hU := HU6.out.later hBr
      have p0 := hT.cell 0 rfl
      have p1 := hT.cell 1 rfl
      have p2 := hU.cell 0 rfl
      have p3 := hU.cell 1 rfl
      have FS := refSameTrace NA nn nc EA ne ec NB nn mc EB ne fc t t wr (TrOk.below HO6.out hBr) (TrOk.below HV6.out hBr)
      rw [show decide (t = t) = true from decide_eq_true rfl] at FS
      have HS := Lib.hid FS
      have HB7 := Lib.hid (HB6.out.trans (hBr.mono HB6.out.size))
      clear hT hU FS hBr HO6 HV6
      go_wp2_with fail
      refine HS.out.mono ?_
      rintro e w7 ⟨rfl, hB7⟩
      have HB8 := Lib.hid (HB7.out.trans (hB7.mono HB7.out.size))
      clear hB7
      go_wp2_with fail
      go_ret
      exact ⟨rfl, HB8.out⟩
end Go.Proofs.Ytgfifjcecpllbaa.Log

namespace Go.Proofs.Ytgfifjcecpllbaa.Log
open Go.RowKit Go.Proofs.Ytgfifjcecpllbaa.Ints Go.Proofs.Ytgfifjcecpllbaa.Mem Go.Proofs.Ytgfifjcecpllbaa.SumMath Go.Proofs.Ytgfifjcecpllbaa.SumWalks Go.Proofs.Ytgfifjcecpllbaa.Trace Go.Proofs.Ytgfifjcecpllbaa.Record

theorem recs_next (es : List Ev) (k : Nat) (hk : k < es.length) : (es.take (k + 1)).flatMap recR = (es.take k).flatMap recR ++ recR (es.getD k noEv) := by
  rw [List.take_succ_eq_append_getElem hk, List.flatMap_append]
  simp [List.getD, hk]
theorem recs_len {es : List Ev} (h : ∀ e ∈ es, e.ids.length ≤ 64) : (es.flatMap recR).length ≤ 78 * es.length := by
  induction es with
  | nil => simp
  | cons e l ih =>
    rw [List.flatMap_cons, List.length_append, rec_len, List.length_cons]
    have h1 := h e (List.mem_cons_self ..)
    have h2 := ih (fun x hx => h x (List.mem_cons_of_mem _ hx))
    omega
theorem front_len {l : List (List UInt8)} (h : namesOk l = true) : (frontL l).length ≤ 1093 := by
  have h64 := ((namesOk_iff l).1 h).1
  have := flat_len (names := l) (m := 16) (fun s hs => (names_le h s hs).2)
  unfold frontL
  rw [List.length_append]
  have e : ([87, 71, 76, 1, (l.length : Int) % 256] : List Int).length = 5 := rfl
  omega
theorem head_len {l : List (List UInt8)} (h : namesOk l = true) : (headL l).length ≤ 1097 := by
  have := front_len h
  unfold headL
  rw [List.length_append]
  have e : ∀ s, (be4 s).length = 4 := fun s => rfl
  have := e (adn 1 (frontL l))
  omega
/-- The ids of a trace's events may be a record's. -/
theorem may_ids {t : Tr} (h : mayT t = true) {k : Nat} (hk : k < t.events.length) : idsOk (t.events.getD k noEv).ids t.names.length = true ∧ idsOk (t.events.getD k noEv).ids 64 = true := by
  rw [mayT_iff] at h
  have h1 := ((evsOk_iff _ _).1 h.2 k hk).1
  have h2 := ((namesOk_iff _).1 h.1).1
  exact ⟨h1, ids_wide (by omega) h1⟩
theorem may_len {t : Tr} (h : mayT t = true) : ∀ e ∈ t.events, e.ids.length ≤ 64 := by
  intro e he
  obtain ⟨k, hk, rfl⟩ := List.getElem_of_mem he
  have := ids_count (may_ids h hk).2
  have e1 : t.events.getD k noEv = t.events[k] := by simp [List.getD, hk]
  rw [e1] at this
  omega

set_option maxHeartbeats 4000000 in
set_option maxRecDepth 100000 in
theorem refEncode (NA : Option Addr) (nn nc : Nat) (EA : Option Addr) (ne ec : Nat) (t : Tr) (w : World) (h : TrOk Any w NA nn nc EA ne ec t) (hne : ne ≤ 1048576) :
    Calls Try.prog 13 #[.agg #[.slice NA nn nc, .slice EA ne ec]] w (GotBytes w (encL t)) := by
  have q63 : maxLen = 9223372036854775807 := rfl
  have HD := Lib.hid h
  have b0 := boxT_at (Below.refl (w.heap.size + 1) (boxT w NA nn nc EA ne ec))
  have hb1 : Below w.heap.size w (boxT w NA nn nc EA ne ec) := boxT_below (Below.refl _ _)
  have FM := refMay NA nn nc EA ne ec t (boxT w NA nn nc EA ne ec) (h.below hb1)
  obtain ⟨W1, hW1⟩ : ∃ W1, boxT w NA nn nc EA ne ec = W1 := ⟨_, rfl⟩
  have hs1 : W1.heap.size = w.heap.size + 1 := by rw [← hW1]; simp
  have hW : w.alloc (.cells #[.slice NA nn nc, .slice EA ne ec] 25) = W1 := hW1
  rw [hW1] at b0 hb1 FM
  obtain ⟨x0, x1⟩ := b0
  have HB1 := Lib.hid hb1
  rcases hm : mayT t
  · rw [hm] at FM
    have HM := Lib.hid FM
    have HE := Lib.hid (show encL t = [] by unfold encL; rw [hm]; rfl)
    clear hW1 h hm FM hb1
    go_enter Try.func13, Try.ntmps13
    go_wp2_with fail
    refine HM.out.mono ?_
    rintro e w2 ⟨rfl, hB2⟩
    go_wp2
    go_ret
    unfold GotBytes
    rw [HE.out]
    exact ⟨_, rfl, World.ownsRow_nil _ _ _ _, HB1.out.trans (hB2.mono HB1.out.size)⟩
  · rw [hm] at FM
    have HM := Lib.hid FM
    have hnames := (mayT_iff t).1 hm
    obtain ⟨E, hE⟩ : ∃ E : Nat → List Int, E = fun k => headL t.names ++ (t.events.take k).flatMap recR := ⟨_, rfl⟩
    have hE0 : E 0 = headL t.names := by rw [hE]; simp
    have hEn : E ne = encL t := by rw [hE]; unfold encL; rw [hm, if_pos rfl]; simp only; rw [List.take_of_length_le (by rw [h.elen]; exact Nat.le_refl _)]
    have hEs : ∀ k, k < ne → E (k + 1) = putR (E k) (t.events.getD k noEv) := fun k hk => by
      have hk2 : k < t.events.length := by rw [h.elen]; exact hk
      unfold putR
      rw [if_pos (may_ids hm hk2).2, hE]
      simp only
      rw [recs_next _ _ hk2, List.append_assoc]
    have hEl : ∀ k, k ≤ ne → (E k).length ≤ 100000000 := fun k hk => by
      rw [hE]
      simp only [List.length_append]
      have h1 := head_len hnames.1
      have h2 := recs_len (es := t.events.take k) (fun e he => may_len hm e (List.mem_of_mem_take he))
      have h3 : (t.events.take k).length ≤ ne := by rw [List.length_take]; have := h.elen; omega
      omega
    have hEb : ∀ k, k ≤ ne → ∀ z ∈ E k, (Lit.int .u8 z).wf = true := fun k hk z hz => by
      rw [hE] at hz
      rcases List.mem_append.1 hz with h1 | h1
      · exact u8_all (head_bytes _) z h1
      · obtain ⟨e, he, h2⟩ := List.mem_flatMap.1 h1
        obtain ⟨i, hi, rfl⟩ := List.getElem_of_mem (List.mem_of_mem_take he)
        have e1 : t.events.getD i noEv = t.events[i] := by simp [List.getD, hi]
        rw [← e1] at h2
        exact u8_all (rec_bytes (may_ids hm hi).2) z h2
    have HE0 := Lib.hid hE0
    have HEn := Lib.hid hEn
    have HEs := Lib.hid hEs
    have HEl := Lib.hid hEl
    have HEb := Lib.hid hEb
    have FH := Lib.hid (fun W (hb : Below w.heap.size w W) => refHeader NA nn nc t.names W h.nlen (by have := ((namesOk_iff _).1 hnames.1).1; rw [h.nlen] at this; exact this) (h.names.below hb) (fun s hs => (names_le hnames.1 s hs).2))
    have HMAY := Lib.hid hm
    clear hE hE0 hEn hEs hEl hEb hW1 h hm FM hb1 hnames
    go_enter Try.func13, Try.ntmps13
    go_wp2_with fail
    refine HM.out.mono ?_
    rintro e w2 ⟨rfl, hB2⟩
    have y0 := (hB2.cell (p := ⟨w.heap.size, 0, none⟩) (by rw [hs1]; exact Nat.lt_succ_self _)).trans x0
    have y1 := (hB2.cell (p := ⟨w.heap.size, 1, none⟩) (by rw [hs1]; exact Nat.lt_succ_self _)).trans x1
    have HB2 := Lib.hid (HB1.out.trans (hB2.mono HB1.out.size))
    have HW2 := Lib.hid (hB2)
    clear hB2 x0 x1
    go_wp2_with fail
    refine (FH.out w2 HB2.out).mono ?_
    intro e w3 hmade
    obtain ⟨v3, rfl, hown3, hB3⟩ := hmade
    have z0 := (hB3.cell (p := ⟨w.heap.size, 0, none⟩) (World.block_lt_of_cell? w2 _ y0)).trans y0
    have z1 := (hB3.cell (p := ⟨w.heap.size, 1, none⟩) (World.block_lt_of_cell? w2 _ y1)).trans y1
    have HB3 := Lib.hid (HB2.out.trans (hB3.mono HB2.out.size))
    have HO3 := Lib.hid (own_weaken hown3 HB2.out.size)
    clear hown3 hB3 y0 y1
    go_wp2_with fail
    go_loopw [3, 15] (fun v i wr => ∃ k : Nat, k ≤ ne ∧ i = .int .i64 k ∧ wr.ownsRow w.heap.size 5 1 v (E k).length ((E k).map (Value.int .u8)) ∧ Below w.heap.size w wr) (fun _ i _ => ne - (intOf i).toNat)
    case atStart => exact ⟨0, Nat.zero_le _, rfl, by rw [HE0.out]; exact HO3.out, HB3.out⟩
    case round =>
      obtain ⟨k, hk, rfl, hrow, hBr⟩ := hrel
      clear z0 z1
      by_cases hkn : k < ne
      · have HW := HD.out.below hBr
        obtain ⟨b, off, K, ck, rfl, c0, c1, hok⟩ := HW.evs.kids (k := k) (by rw [HW.elen]; exact hkn)
        have HN := Lib.hid (HEs.out k hkn)
        have hfl := HEl.out k hk
        obtain ⟨A2, c2, rfl, hc2, hm2, hA2, -⟩ := own_slice hrow
        have hrd := Rd.own hrow (HEb.out k hk)
        obtain ⟨ev, hev⟩ : ∃ ev, t.events.getD k noEv = ev := ⟨_, rfl⟩
        rw [hev] at c0 c1 hok HN
        obtain ⟨fl, hfl2⟩ : ∃ fl, (E k).length = fl := ⟨_, rfl⟩
        rw [hfl2] at hrd hc2 hfl
        have hal := (Below.refl _ wr).alloc (Nat.le_refl _) (.cells #[.int .u64 ev.time, .slice K ev.ids.length ck] 39)
        have FP := Lib.hid (refPutR A2 fl c2 (E k) ev K ck (wr.alloc (.cells #[.int .u64 ev.time, .slice K ev.ids.length ck] 39)) hc2 (by omega) (hrd.below hal) (hok.below hal))
        have HB4 := Lib.hid (hBr.trans (hal.mono hBr.size))
        have hbx := Blk.new wr #[.int .u64 ev.time, .slice K ev.ids.length ck] 39 [.int .u64 ev.time, .slice K ev.ids.length ck] rfl
        have y0 := hbx.cell 0 rfl
        have y1 := hbx.cell 1 rfl
        rw [hfl2]
        clear hev hfl2 hrow hrd hal HW hok hbx hBr
        go_wp2_with fail
        refine FP.out.mono ?_
        intro e w5 hmade
        obtain ⟨v5, rfl, hown5, hB5⟩ := hmade
        go_wp2
        go_roundw
        case rel => exact ⟨k + 1, by omega, by go_num, by rw [HN.out]; exact own_weaken hown5 HB4.out.size, HB4.out.trans (hB5.mono HB4.out.size)⟩
        case measure => simp [intOf]; omega
      · obtain rfl : k = ne := by omega
        go_wp2
        go_ret
        unfold GotBytes
        rw [← HEn.out]
        exact ⟨_, rfl, hrow, hBr⟩
end Go.Proofs.Ytgfifjcecpllbaa.Log
