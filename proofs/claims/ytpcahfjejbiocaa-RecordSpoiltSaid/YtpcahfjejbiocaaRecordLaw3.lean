/-
  The walk of the law RecordSpoilt (stage 9). By an AI agent.
-/
import Derived.Test.YtpcahfjejbiocaaRecordLaw5
import Derived.Test.YtpcahfjejbiocaaIntsFull
namespace Go.Proofs.Ytpcahfjejbiocaa.Record
open Go.RowKit Go.Proofs.Ytpcahfjejbiocaa.Ints Go.Proofs.Ytpcahfjejbiocaa.Mem Go.Proofs.Ytpcahfjejbiocaa.SumMath Go.Proofs.Ytpcahfjejbiocaa.SumWalks Go.Proofs.Ytpcahfjejbiocaa.Trace

theorem zeros10 : (madeCells (Value.int .u8 0).cells (10 * 1)).toList = (List.replicate 10 (0 : Int)).map (Value.int .u8) := by kernel_rfl

set_option maxHeartbeats 8000000 in
set_option maxRecDepth 100000 in
theorem lawSpoilt (t : Int) (b : Nat) (p : Int) (a x u : Nat) (I : Option Addr) (n c : Nat) (is : List Int) (R : Option Addr) (l d : Nat) (rs : List Int) (w : World) (ht : (Lit.int .u64 t).wf = true) (hb : b < 18446744073709551616) (ha : a ≤ 255) (hx : x ≤ 255) (hu : u ≤ 255)
    (hnc : n ≤ c) (hc : c ≤ maxLen) (hI : Rd .u8 w I n is) (_hld : l ≤ d) (_hd : d ≤ maxLen) (hl : l ≤ 140737488351232) (hR : Rd .u8 w R l rs) :
    Calls Try.prog 5 #[.int .u64 t, .int .u64 (b : Int), .int .i64 p, .int .u8 (a : Int), .int .u8 (x : Int), .int .u8 (u : Int), .slice I n c, .slice R l d] w fun e w' => e = .returned (.bool true) ∧ Below w.heap.size w w' := by
  have q63 : maxLen = 9223372036854775807 := rfl
  obtain ⟨i0, hi, hz0, hz1, hz2⟩ := info_parts info5'
  have FE := lawEvent t b (b : Int) rfl w ht hb
  obtain ⟨v, hv⟩ : ∃ v, evB t b = v := ⟨_, rfl⟩
  have hok : idsOk v.ids 64 = true := by rw [← hv]; exact bits_ok b
  have hcnt := ids_count hok
  rw [hv] at FE
  have HE := Lib.hid FE
  have HOK := Lib.hid hok
  have HI := Lib.hid hI
  have HRS := Lib.hid hR
  have HRB := Lib.hid (u8_all (rec_bytes hok))
  obtain ⟨m, hm⟩ : ∃ m, v.ids.length = m := ⟨_, rfl⟩
  rw [hm] at hcnt
  have hm64 : m ≤ 64 := by omega
  have HM := Lib.hid hm
  obtain ⟨N, hN⟩ : ∃ N, 14 + m + l = N := ⟨_, rfl⟩
  obtain ⟨i, hix, hil⟩ : ∃ i : Nat, (a : Int) % (N : Int) = (i : Int) ∧ i < N := ⟨a % N, by rw [Int.natCast_emod], Nat.mod_lt _ (by omega)⟩
  have HN := Lib.hid hN
  have hn0 : ((N : Int) == 0) = false := by simp; omega
  have hn1 : (i : Int) < (N : Int) := by omega
  have hn2 : ¬ N = 0 := by omega
  obtain ⟨r, hu7, hr6⟩ : ∃ r : Nat, (u : Int) % 7 = (r : Int) ∧ r ≤ 6 := ⟨u % 7, by rw [Int.natCast_emod]; rfl, by omega⟩
  have hmin : min (N : Int) (r : Int) = (r : Int) := by omega
  have hsub : (N : Int) - (r : Int) = ((N - r : Nat) : Int) := by omega
  clear FE hv hok hm hcnt hI hR
  go_enter Try.func5, Try.ntmps5
  go_wp2_with fail
  refine HE.out.mono ?_
  rintro e w1 ⟨K, k, rfl, hk, hB1, -⟩
  have FP := put_nil K k w1 hk HOK.out
  rw [HM.out] at FP ⊢
  have HP := Lib.hid FP
  have HB1 := Lib.hid hB1
  clear FP hk hB1 HE
  go_wp2_with fail
  refine HP.out.mono ?_
  rintro e w2 ⟨g, c1, rfl, hr, hc1, hm1, hg, hown, hB2⟩
  have HB2 := Lib.hid (HB1.out.trans (hB2.mono HB1.out.size))
  have hown2 := own_weaken hown HB1.out.size
  have hrs := HRS.out.below HB2.out
  have hsz2 := HB2.out.size
  have HRW := Lib.hid hrs.all
  clear hr hown hB2 HP hg
  by_cases h70 : 70 < n
  · have h70' : (70 : Int) < (n : Int) := by omega
    have h71 : (70 : Int) ≤ (c : Int) := by omega
    go_wp2_with (first
      | (at_builtin; refine wpList_append_ints rfl _ _ 22 rfl .u8 w3.heap.size 5 i0 1 Try.underlying22 hi hz0 hz1 hz2 _ _ _ rfl hmade2 _ _ _ _ rfl hids (by omega) (by omega) hbs4 ?_; intro v5 w5 hown5 hgr5; obtain ⟨g5, c5, rfl, hgb5, hglt5, hcap5, hcapm5⟩ := own_form hown5 (by omega); have hx0 := own_cell hown5 (j := 0) (by omega); have hx1 := own_cell hown5 (j := 1) (by omega); have hx9 := own_cell hown5 (j := 9) (by omega); have hy0 := hown5.frozenAt 0; have hy1 := hown5.frozenAt 1; have hy9 := hown5.frozenAt 9; have HO5 := Lib.hid hown5; have HB5 := Lib.hid (HB4.out.grown hgr5 hbs4 (fun q hq => (hmade2.lt q hq).1)))
      | (at_builtin; refine wpList_append_ints rfl _ _ 22 rfl .u8 w.heap.size 5 i0 1 Try.underlying22 hi hz0 hz1 hz2 _ _ _ rfl hown2 _ _ _ rs rfl hrs (by omega) (by omega) hsz2 ?_; intro v3 w3 hown3 hgr3; rw [hN] at hown3; obtain ⟨g3, c3, rfl, hgb3, hglt3, hcap3, hcapm3⟩ := own_form hown3 (by omega); have hcell3 := own_cell hown3 hil; have hfz3 := hown3.frozenAt i; have HB3 := Lib.hid (HB2.out.grown hgr3 hsz2 (fun q hq => (hown2.lt q hq).1)); have hr31 : ((N - r : Nat) : Int) ≤ (c3 : Int) := (by omega); have hbs2 := (HB3.out.setCell (p := ⟨g3, i, none⟩) hgb3 (.int .u8 (bits .xor .u8 ((recR v ++ rs)[i]?.getD 0) (x : Int)))).size)
      | (at_make; refine wpList_make_full _ rfl _ _ 22 rfl w3.heap.size 5 i0 (.int .u8 0) 1 Try.underlying22 hi hz0 hz1 .i64 .i64 _ _ 10 rfl rfl rfl rfl (by rw [hz2]; omega) (by decide) (by simp [World.setCell]) ?_; intro w4 hmade hgr4; have hszc : (w3.setCell ⟨g3, i, none⟩ (.int .u8 (bits .xor .u8 ((recR v ++ rs)[i]?.getD 0) (x : Int)))).heap.size = w3.heap.size := (by simp [World.setCell]); have hmade2 : w4.ownsRow w3.heap.size 5 1 (.slice (some ⟨w3.heap.size, 0, none⟩) 10 10) 10 ((List.replicate 10 (0 : Int)).map (Value.int .u8)) := (by rw [hszc, zeros10] at hmade; exact hmade); have hB4 := (Below.refl w3.heap.size (w3.setCell ⟨g3, i, none⟩ (.int .u8 (bits .xor .u8 ((recR v ++ rs)[i]?.getD 0) (x : Int))))).grown hgr4 (by rw [hszc]; exact Nat.le_refl _) (fun q hq => (by cases hq)); have HB4 := Lib.hid hB4; have hbs4 : w3.heap.size ≤ w4.heap.size := (by have := hB4.size; rw [hszc] at this; exact this); have HW3 := Lib.hid (HB3.out.setCell (p := ⟨g3, i, none⟩) hgb3 (.int .u8 (bits .xor .u8 ((recR v ++ rs)[i]?.getD 0) (x : Int)))); have HS3 := Lib.hid (show w3.heap.size ≤ (w3.setCell ⟨g3, i, none⟩ (.int .u8 (bits .xor .u8 ((recR v ++ rs)[i]?.getD 0) (x : Int)))).heap.size from (by rw [hszc]; exact Nat.le_refl _)); have hids := ((HI.out.take (m := 70) (by omega))).below (HW3.out.trans (hB4.mono HB3.out.size)); clear hmade hszc hB4))
    obtain ⟨W6, hW6⟩ : ∃ W6, ((w5.setCell ⟨g5, 0, none⟩ (.int .u8 (0))).setCell ⟨g5, 1, none⟩ (.int .u8 (78))).setCell ⟨g5, 9, none⟩ (.int .u8 (x : Int)) = W6 := ⟨_, rfl⟩
    have hwf5 : ∀ z ∈ List.replicate 10 (0 : Int) ++ is.take 70, (Lit.int .u8 z).wf = true := fun z hz => by
      rcases List.mem_append.1 hz with h | h
      · rw [(List.mem_replicate.1 h).2]; decide
      · exact hids.all z h
    have hrc : Rd .u8 W6 (some ⟨g5, 0, none⟩) (80) ((((List.replicate 10 (0 : Int) ++ is.take 70).set 0 (0)).set 1 (78)).set 9 (x : Int)) := by
      rw [← hW6]
      exact Rd.own (own_set (own_set (own_set HO5.out 0 _) 1 _) 9 _) (wf_set (wf_set (wf_set hwf5 (u8_wf (by omega))) (u8_wf (by omega))) (u8_wf (by omega)))
    have hB6 : Below w3.heap.size (w3.setCell ⟨g3, i, none⟩ (.int .u8 (bits .xor .u8 ((recR v ++ rs)[i]?.getD 0) (x : Int)))) W6 := by
      rw [← hW6]
      exact ((HB5.out.setCell hgb5 _).setCell hgb5 _).setCell hgb5 _
    have hB6' : Below (w3.setCell ⟨g3, i, none⟩ (.int .u8 (bits .xor .u8 ((recR v ++ rs)[i]?.getD 0) (x : Int)))).heap.size (w3.setCell ⟨g3, i, none⟩ (.int .u8 (bits .xor .u8 ((recR v ++ rs)[i]?.getD 0) (x : Int)))) W6 := by
      have e : (w3.setCell ⟨g3, i, none⟩ (.int .u8 (bits .xor .u8 ((recR v ++ rs)[i]?.getD 0) (x : Int)))).heap.size = w3.heap.size := by simp [World.setCell]
      rw [e]
      exact hB6
    have hwf3 : ∀ z ∈ recR v ++ rs, (Lit.int .u8 z).wf = true := fun z hz => (List.mem_append.1 hz).elim (HRB.out z) (HRW.out z)
    have hzb := all_u8 hwf3 ((recR v ++ rs)[i]'(by rw [List.length_append, rec_len, HM.out, HRS.out.len]; omega)) (List.getElem_mem _)
    have hxo := (xor_u8 ((recR v ++ rs)[i]?.getD 0) (x : Int) (by rw [List.getElem?_eq_getElem (by rw [List.length_append, rec_len, HM.out, HRS.out.len]; omega)]; exact hzb) ⟨by omega, by omega⟩).1
    have hrb : Rd .u8 (w3.setCell ⟨g3, i, none⟩ (.int .u8 (bits .xor .u8 ((recR v ++ rs)[i]?.getD 0) (x : Int)))) (some ⟨g3, 0, none⟩) N ((recR v ++ rs).set i (bits .xor .u8 ((recR v ++ rs)[i]?.getD 0) (x : Int))) := Rd.own (own_set hown3 i _) (wf_set hwf3 (u8_wf hxo))
    have hrb6 := (hrb.below hB6').take (m := N - r) (by omega)
    have HBW := Lib.hid (HW3.out.trans (hB6.mono HB3.out.size))
    obtain ⟨cs, hcs⟩ : ∃ cs, (((List.replicate 10 (0 : Int) ++ is.take 70).set 0 (0)).set 1 (78)).set 9 (x : Int) = cs := ⟨_, rfl⟩
    rw [hcs] at hrc
    rw [hW6]
    have HRC := Lib.hid hrc
    have HCW := Lib.hid (show ∀ z ∈ cs ++ be4 (adn 1 cs), (Lit.int .u8 z).wf = true from fun z hz => (List.mem_append.1 hz).elim (hrc.all z) (be4_wf (adn_bd 1 _) z))
    have FG1 := Lib.hid (lawGot (some ⟨g3, 0, none⟩) (N - r) c3 _ p W6 (by omega) hcapm3 hrb6)
    clear hW6 hcs hrc hrb6 hrb hxo hzb hwf3 hB6' hB6 hwf5 hown3 hgr3 hcell3 hfz3 hx0 hx1 hx9 hy0 hy1 hy9 HO5 HB5 hown5 hgr5 hmade2 hids HB4 HW3 HS3
    refine FG1.out.mono ?_
    rintro e w7 ⟨rfl, hB7⟩
    have HB7 := Lib.hid (HBW.out.trans (hB7.mono HBW.out.size))
    have HR7 := Lib.hid (HRC.out.below hB7)
    clear hB7 FG1
    go_wp2_with fail
    refine (refPut (some ⟨g5, 0, none⟩) (80) c5 cs w7 (by omega) HR7.out).mono ?_
    intro e w8 hmade
    obtain ⟨A8, c8, rfl, hr8, hc8, hm8, -, -, hB8⟩ := made_slice hmade HCW.out
    have HB8 := Lib.hid (HB7.out.trans (hB8.mono HB7.out.size))
    have HR8 := Lib.hid (HR7.out.below hB8)
    obtain ⟨q8, hq8⟩ : ∃ q, 80 + 4 = q := ⟨_, rfl⟩
    rw [hq8] at hr8 hc8 ⊢
    have FG2 := Lib.hid (lawGot A8 q8 c8 _ p w8 hc8 hm8 hr8)
    clear hq8
    clear hmade hr8 hB8
    go_wp2_with fail
    refine FG2.out.mono ?_
    rintro e w9 ⟨rfl, hB9⟩
    have HB9 := Lib.hid (HB8.out.trans (hB9.mono HB8.out.size))
    have HR9 := Lib.hid (HR8.out.below hB9)
    clear hB9 FG2
    go_wp2_with fail
    refine (refPut (some ⟨g5, 0, none⟩) (80) c5 cs w9 (by omega) HR9.out).mono ?_
    intro e w10 hmade
    obtain ⟨A10, c10, rfl, hr10, hc10, hm10, -, hown10, hB10⟩ := made_slice hmade HCW.out
    obtain ⟨q10, hq10⟩ : ∃ q, 80 + 4 = q := ⟨_, rfl⟩
    rw [hq10] at hr10 hc10 hown10 ⊢
    have hq10b : q10 ≤ 100 := by omega
    clear hq10
    have HB10 := Lib.hid (HB9.out.trans (hB10.mono HB9.out.size))
    have hrs10 := HRS.out.below HB10.out
    have hsz10 := hB10.size
    clear hmade hr10
    go_wp2_with (at_builtin; refine wpList_append_if (by rfl) _ _ 22 rfl .u8 w9.heap.size 5 i0 1 Try.underlying22 hi hz0 hz1 hz2 _ _ _ rfl hown10 _ _ _ rs rfl hrs10 (by omega) (by omega) hsz10 ?_; intro v11 w11 hown11 hgr11; obtain ⟨A11, c11, rfl, hc11, hm11, -⟩ := own_slice hown11; have hB11 := hB10.grown hgr11 hsz10 (fun q hq => (hown10.lt q hq).1))
    have HB11 := Lib.hid (HB9.out.trans (hB11.mono HB9.out.size))
    have hr11 := Rd.own hown11 (fun z hz => (List.mem_append.1 hz).elim (HCW.out z) (HRW.out z))
    have FG3 := Lib.hid (lawGot A11 (q10 + l) c11 _ p w11 hc11 hm11 hr11)
    clear hown11 hgr11 hB11 hr11 hown10 hrs10 hB10
    refine FG3.out.mono ?_
    rintro e w12 ⟨rfl, hB12⟩
    have HB12 := Lib.hid (HB11.out.trans (hB12.mono HB11.out.size))
    clear hB12 FG3
    go_wp2_with fail
    refine (awake w12).mono ?_
    rintro e w13 ⟨rfl, hB13⟩
    go_wp2
    go_ret
    exact ⟨rfl, HB12.out.trans (hB13.mono HB12.out.size)⟩
  · have h70' : ¬ ((70 : Int) < (n : Int)) := by omega
    go_wp2_with (first
      | (at_builtin; refine wpList_append_ints rfl _ _ 22 rfl .u8 w3.heap.size 5 i0 1 Try.underlying22 hi hz0 hz1 hz2 _ _ _ rfl hmade2 _ _ _ _ rfl hids (by omega) (by omega) hbs4 ?_; intro v5 w5 hown5 hgr5; obtain ⟨g5, c5, rfl, hgb5, hglt5, hcap5, hcapm5⟩ := own_form hown5 (by omega); have hx0 := own_cell hown5 (j := 0) (by omega); have hx1 := own_cell hown5 (j := 1) (by omega); have hx9 := own_cell hown5 (j := 9) (by omega); have hy0 := hown5.frozenAt 0; have hy1 := hown5.frozenAt 1; have hy9 := hown5.frozenAt 9; have HO5 := Lib.hid hown5; have HB5 := Lib.hid (HB4.out.grown hgr5 hbs4 (fun q hq => (hmade2.lt q hq).1)))
      | (at_builtin; refine wpList_append_ints rfl _ _ 22 rfl .u8 w.heap.size 5 i0 1 Try.underlying22 hi hz0 hz1 hz2 _ _ _ rfl hown2 _ _ _ rs rfl hrs (by omega) (by omega) hsz2 ?_; intro v3 w3 hown3 hgr3; rw [hN] at hown3; obtain ⟨g3, c3, rfl, hgb3, hglt3, hcap3, hcapm3⟩ := own_form hown3 (by omega); have hcell3 := own_cell hown3 hil; have hfz3 := hown3.frozenAt i; have HB3 := Lib.hid (HB2.out.grown hgr3 hsz2 (fun q hq => (hown2.lt q hq).1)); have hr31 : ((N - r : Nat) : Int) ≤ (c3 : Int) := (by omega); have hbs2 := (HB3.out.setCell (p := ⟨g3, i, none⟩) hgb3 (.int .u8 (bits .xor .u8 ((recR v ++ rs)[i]?.getD 0) (x : Int)))).size)
      | (at_make; refine wpList_make_full _ rfl _ _ 22 rfl w3.heap.size 5 i0 (.int .u8 0) 1 Try.underlying22 hi hz0 hz1 .i64 .i64 _ _ 10 rfl rfl rfl rfl (by rw [hz2]; omega) (by decide) (by simp [World.setCell]) ?_; intro w4 hmade hgr4; have hszc : (w3.setCell ⟨g3, i, none⟩ (.int .u8 (bits .xor .u8 ((recR v ++ rs)[i]?.getD 0) (x : Int)))).heap.size = w3.heap.size := (by simp [World.setCell]); have hmade2 : w4.ownsRow w3.heap.size 5 1 (.slice (some ⟨w3.heap.size, 0, none⟩) 10 10) 10 ((List.replicate 10 (0 : Int)).map (Value.int .u8)) := (by rw [hszc, zeros10] at hmade; exact hmade); have hB4 := (Below.refl w3.heap.size (w3.setCell ⟨g3, i, none⟩ (.int .u8 (bits .xor .u8 ((recR v ++ rs)[i]?.getD 0) (x : Int))))).grown hgr4 (by rw [hszc]; exact Nat.le_refl _) (fun q hq => (by cases hq)); have HB4 := Lib.hid hB4; have hbs4 : w3.heap.size ≤ w4.heap.size := (by have := hB4.size; rw [hszc] at this; exact this); have HW3 := Lib.hid (HB3.out.setCell (p := ⟨g3, i, none⟩) hgb3 (.int .u8 (bits .xor .u8 ((recR v ++ rs)[i]?.getD 0) (x : Int)))); have HS3 := Lib.hid (show w3.heap.size ≤ (w3.setCell ⟨g3, i, none⟩ (.int .u8 (bits .xor .u8 ((recR v ++ rs)[i]?.getD 0) (x : Int)))).heap.size from (by rw [hszc]; exact Nat.le_refl _)); have hids := (HI.out).below (HW3.out.trans (hB4.mono HB3.out.size)); clear hmade hszc hB4))
    obtain ⟨W6, hW6⟩ : ∃ W6, ((w5.setCell ⟨g5, 0, none⟩ (.int .u8 ((8 + (n : Int)) / 256))).setCell ⟨g5, 1, none⟩ (.int .u8 ((8 + (n : Int)) % 256))).setCell ⟨g5, 9, none⟩ (.int .u8 (x : Int)) = W6 := ⟨_, rfl⟩
    have hwf5 : ∀ z ∈ List.replicate 10 (0 : Int) ++ is, (Lit.int .u8 z).wf = true := fun z hz => by
      rcases List.mem_append.1 hz with h | h
      · rw [(List.mem_replicate.1 h).2]; decide
      · exact hids.all z h
    have hrc : Rd .u8 W6 (some ⟨g5, 0, none⟩) (10 + n) ((((List.replicate 10 (0 : Int) ++ is).set 0 ((8 + (n : Int)) / 256)).set 1 ((8 + (n : Int)) % 256)).set 9 (x : Int)) := by
      rw [← hW6]
      exact Rd.own (own_set (own_set (own_set HO5.out 0 _) 1 _) 9 _) (wf_set (wf_set (wf_set hwf5 (u8_wf (by omega))) (u8_wf (by omega))) (u8_wf (by omega)))
    have hB6 : Below w3.heap.size (w3.setCell ⟨g3, i, none⟩ (.int .u8 (bits .xor .u8 ((recR v ++ rs)[i]?.getD 0) (x : Int)))) W6 := by
      rw [← hW6]
      exact ((HB5.out.setCell hgb5 _).setCell hgb5 _).setCell hgb5 _
    have hB6' : Below (w3.setCell ⟨g3, i, none⟩ (.int .u8 (bits .xor .u8 ((recR v ++ rs)[i]?.getD 0) (x : Int)))).heap.size (w3.setCell ⟨g3, i, none⟩ (.int .u8 (bits .xor .u8 ((recR v ++ rs)[i]?.getD 0) (x : Int)))) W6 := by
      have e : (w3.setCell ⟨g3, i, none⟩ (.int .u8 (bits .xor .u8 ((recR v ++ rs)[i]?.getD 0) (x : Int)))).heap.size = w3.heap.size := by simp [World.setCell]
      rw [e]
      exact hB6
    have hwf3 : ∀ z ∈ recR v ++ rs, (Lit.int .u8 z).wf = true := fun z hz => (List.mem_append.1 hz).elim (HRB.out z) (HRW.out z)
    have hzb := all_u8 hwf3 ((recR v ++ rs)[i]'(by rw [List.length_append, rec_len, HM.out, HRS.out.len]; omega)) (List.getElem_mem _)
    have hxo := (xor_u8 ((recR v ++ rs)[i]?.getD 0) (x : Int) (by rw [List.getElem?_eq_getElem (by rw [List.length_append, rec_len, HM.out, HRS.out.len]; omega)]; exact hzb) ⟨by omega, by omega⟩).1
    have hrb : Rd .u8 (w3.setCell ⟨g3, i, none⟩ (.int .u8 (bits .xor .u8 ((recR v ++ rs)[i]?.getD 0) (x : Int)))) (some ⟨g3, 0, none⟩) N ((recR v ++ rs).set i (bits .xor .u8 ((recR v ++ rs)[i]?.getD 0) (x : Int))) := Rd.own (own_set hown3 i _) (wf_set hwf3 (u8_wf hxo))
    have hrb6 := (hrb.below hB6').take (m := N - r) (by omega)
    have HBW := Lib.hid (HW3.out.trans (hB6.mono HB3.out.size))
    obtain ⟨cs, hcs⟩ : ∃ cs, (((List.replicate 10 (0 : Int) ++ is).set 0 ((8 + (n : Int)) / 256)).set 1 ((8 + (n : Int)) % 256)).set 9 (x : Int) = cs := ⟨_, rfl⟩
    rw [hcs] at hrc
    rw [hW6]
    have HRC := Lib.hid hrc
    have HCW := Lib.hid (show ∀ z ∈ cs ++ be4 (adn 1 cs), (Lit.int .u8 z).wf = true from fun z hz => (List.mem_append.1 hz).elim (hrc.all z) (be4_wf (adn_bd 1 _) z))
    have FG1 := Lib.hid (lawGot (some ⟨g3, 0, none⟩) (N - r) c3 _ p W6 (by omega) hcapm3 hrb6)
    clear hW6 hcs hrc hrb6 hrb hxo hzb hwf3 hB6' hB6 hwf5 hown3 hgr3 hcell3 hfz3 hx0 hx1 hx9 hy0 hy1 hy9 HO5 HB5 hown5 hgr5 hmade2 hids HB4 HW3 HS3
    refine FG1.out.mono ?_
    rintro e w7 ⟨rfl, hB7⟩
    have HB7 := Lib.hid (HBW.out.trans (hB7.mono HBW.out.size))
    have HR7 := Lib.hid (HRC.out.below hB7)
    clear hB7 FG1
    go_wp2_with fail
    refine (refPut (some ⟨g5, 0, none⟩) (10 + n) c5 cs w7 (by omega) HR7.out).mono ?_
    intro e w8 hmade
    obtain ⟨A8, c8, rfl, hr8, hc8, hm8, -, -, hB8⟩ := made_slice hmade HCW.out
    have HB8 := Lib.hid (HB7.out.trans (hB8.mono HB7.out.size))
    have HR8 := Lib.hid (HR7.out.below hB8)
    obtain ⟨q8, hq8⟩ : ∃ q, 10 + n + 4 = q := ⟨_, rfl⟩
    rw [hq8] at hr8 hc8 ⊢
    have FG2 := Lib.hid (lawGot A8 q8 c8 _ p w8 hc8 hm8 hr8)
    clear hq8
    clear hmade hr8 hB8
    go_wp2_with fail
    refine FG2.out.mono ?_
    rintro e w9 ⟨rfl, hB9⟩
    have HB9 := Lib.hid (HB8.out.trans (hB9.mono HB8.out.size))
    have HR9 := Lib.hid (HR8.out.below hB9)
    clear hB9 FG2
    go_wp2_with fail
    refine (refPut (some ⟨g5, 0, none⟩) (10 + n) c5 cs w9 (by omega) HR9.out).mono ?_
    intro e w10 hmade
    obtain ⟨A10, c10, rfl, hr10, hc10, hm10, -, hown10, hB10⟩ := made_slice hmade HCW.out
    obtain ⟨q10, hq10⟩ : ∃ q, 10 + n + 4 = q := ⟨_, rfl⟩
    rw [hq10] at hr10 hc10 hown10 ⊢
    have hq10b : q10 ≤ 100 := by omega
    clear hq10
    have HB10 := Lib.hid (HB9.out.trans (hB10.mono HB9.out.size))
    have hrs10 := HRS.out.below HB10.out
    have hsz10 := hB10.size
    clear hmade hr10
    go_wp2_with (at_builtin; refine wpList_append_if (by rfl) _ _ 22 rfl .u8 w9.heap.size 5 i0 1 Try.underlying22 hi hz0 hz1 hz2 _ _ _ rfl hown10 _ _ _ rs rfl hrs10 (by omega) (by omega) hsz10 ?_; intro v11 w11 hown11 hgr11; obtain ⟨A11, c11, rfl, hc11, hm11, -⟩ := own_slice hown11; have hB11 := hB10.grown hgr11 hsz10 (fun q hq => (hown10.lt q hq).1))
    have HB11 := Lib.hid (HB9.out.trans (hB11.mono HB9.out.size))
    have hr11 := Rd.own hown11 (fun z hz => (List.mem_append.1 hz).elim (HCW.out z) (HRW.out z))
    have FG3 := Lib.hid (lawGot A11 (q10 + l) c11 _ p w11 hc11 hm11 hr11)
    clear hown11 hgr11 hB11 hr11 hown10 hrs10 hB10
    refine FG3.out.mono ?_
    rintro e w12 ⟨rfl, hB12⟩
    have HB12 := Lib.hid (HB11.out.trans (hB12.mono HB11.out.size))
    clear hB12 FG3
    go_wp2_with fail
    refine (awake w12).mono ?_
    rintro e w13 ⟨rfl, hB13⟩
    go_wp2
    go_ret
    exact ⟨rfl, HB12.out.trans (hB13.mono HB12.out.size)⟩
end Go.Proofs.Ytpcahfjejbiocaa.Record
