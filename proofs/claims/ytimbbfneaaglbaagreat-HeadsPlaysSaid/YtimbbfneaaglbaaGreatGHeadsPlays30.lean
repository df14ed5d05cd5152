/-
  The walks of bytes.Equal, bytes.HasPrefix, and of the landed header and Head (package log). By an AI agent.
  The walk of the landed Encode (package log). By an AI agent.
-/
import Derived.Test.YtimbbfneaaglbaaGreatGHeadsPlays28
import Derived.Test.YtimbbfneaaglbaaGreatGHeadsPlays29
import Derived.Lib.SlBytesConst
import Derived.Lib.AppendZeros
import Derived.Test.YtimbbfneaaglbaaGreatGHeadsPlays15
namespace Go.Proofs.YtimbbfneaaglbaaGreat.Log
open Go.RowKit Go.Proofs.YtimbbfneaaglbaaGreat.Ints Go.Proofs.YtimbbfneaaglbaaGreat.Mem Go.Proofs.YtimbbfneaaglbaaGreat.SumMath Go.Proofs.YtimbbfneaaglbaaGreat.SumWalks Go.Proofs.YtimbbfneaaglbaaGreat.Trace Go.Proofs.YtimbbfneaaglbaaGreat.Record

set_option maxHeartbeats 4000000 in
set_option maxRecDepth 100000 in
theorem bytesEqual (A : Option Addr) (n c : Nat) (zs : List Int) (B : Option Addr) (m d : Nat) (ys : List Int) (w : World) (h : Rd .u8 w A n zs) (h2 : Rd .u8 w B m ys) :
    Calls Tryz.prog 101 #[.slice A n c, .slice B m d] w fun e w' => e = .returned (.bool (decide (zs = ys))) ∧ w' = w := by
  have hcv1 := run_str (P := Tryz.prog) (W := w) (c := c) 28 5 9 Tryz.underlying28 Tryz.underlying5 Tryz.underlying9 h
  have hcv2 := run_str (P := Tryz.prog) (W := w) (c := d) 28 5 9 Tryz.underlying28 Tryz.underlying5 Tryz.underlying9 h2
  have hs := str_same h.all h2.all
  obtain ⟨s1, hs1⟩ : ∃ s, strOfNums zs = s := ⟨_, rfl⟩
  obtain ⟨s2, hs2⟩ : ∃ s, strOfNums ys = s := ⟨_, rfl⟩
  rw [hs1] at hcv1 hs
  rw [hs2] at hcv2 hs
  have HS := Lib.hid hs
  clear h h2 hs hs1 hs2
  go_enter Tryz.func101, Tryz.ntmps101
  go_wp2
  go_ret
  exact ⟨by rw [← HS.out]; rfl, rfl⟩

set_option maxHeartbeats 4000000 in
set_option maxRecDepth 100000 in
theorem hasPrefix (A : Option Addr) (n c : Nat) (zs : List Int) (B : Option Addr) (m d : Nat) (ys : List Int) (w : World) (hnc : n ≤ c) (_hn : n ≤ maxLen) (_hm : m ≤ maxLen) (h : Rd .u8 w A n zs) (h2 : Rd .u8 w B m ys) :
    Calls Tryz.prog 83 #[.slice A n c, .slice B m d] w fun e w' => e = .returned (.bool (decide (zs.take m = ys))) ∧ w' = w := by
  have q63 : maxLen = 9223372036854775807 := rfl
  by_cases hlt : n < m
  · have hlt' : ¬ ((n : Int) ≥ (m : Int)) := by omega
    have HS := Lib.hid (show decide (zs.take m = ys) = false from decide_eq_false fun e => by
      have := congrArg List.length e
      rw [List.length_take, h.len, h2.len] at this
      omega)
    clear h h2
    go_enter Tryz.func83, Tryz.ntmps83
    go_wp2
    go_ret
    exact ⟨by rw [← HS.out]; rfl, rfl⟩
  · have hlt' : (n : Int) ≥ (m : Int) := by omega
    have hsl := slice_upto (P := Tryz.prog) 28 (by kernel_rfl) 1 (by kernel_rfl) A n c m (by omega)
    have HE := Lib.hid (bytesEqual A m c (zs.take m) B m d ys w (h.take (by omega)) h2)
    clear h h2
    go_enter Tryz.func83, Tryz.ntmps83
    go_wp2_with fail
    refine HE.out.mono ?_
    rintro e w' ⟨rfl, rfl⟩
    go_wp2
    go_ret
    exact ⟨rfl, rfl⟩

/-- 'append(x, ys...)' where x is full, and ys is not empty: a row of the call's own. -/
theorem run_append_new {P : Program} {w : World} (k : IntKind) (t ty e : TypeId) (i : TypeInfo) (bytes : Nat) (ht : P.underlying t = some (.slice e)) (hi : P.info? e = some i) (hz : i.zero = some (.int k 0))
    (hsize : i.size = 1) (hby : i.bytes = bytes) (A : Option Addr) (n : Nat) (xs : List Int) (hn : 0 < n) (hx : Rd k w A n xs) (B : Option Addr) (m c : Nat) (ys : List Int) (hm : 0 < m) (hy : Rd k w B m ys)
    (h63 : n + m ≤ maxLen) (hbytes : (n + m) * bytes ≤ 140737488355328) :
    ∃ v' w', (Builtin.append_ #[t, t] ty #[.slice A n n, .slice B m c]).run P w = .ok v' w' ∧ w'.ownsRow w.heap.size e 1 v' (n + m) ((xs ++ ys).map (Value.int k)) ∧ Below w.heap.size w w' := by
  obtain ⟨b, off, rfl, hc⟩ := hx.cell hn
  obtain ⟨b2, off2, rfl, hc2⟩ := hy.cell hm
  have addr : ∀ (b off j : Nat), (⟨b, off, none⟩ : Addr).add j = ⟨b, off + j, none⟩ := fun b off j => by unfold Addr.add; split <;> simp_all
  have q63 : maxLen = 9223372036854775807 := rfl
  have ho : ∀ j v, (xs.map (Value.int k))[j]? = some v → w.cell? ((⟨b, off, none⟩ : Addr).add j) = some v := fun j v hv => by
    have hj : j < xs.length := by
      rcases Nat.lt_or_ge j xs.length with h | h
      · exact h
      · simp [List.getElem?_eq_none h] at hv
    rw [addr, hc j (by have := hx.len; omega)]
    simpa [List.getElem?_eq_getElem hj] using hv
  have hw : ∀ j v, (ys.map (Value.int k))[j]? = some v → w.cell? ((⟨b2, off2, none⟩ : Addr).add j) = some v := fun j v hv => by
    have hj : j < ys.length := by
      rcases Nat.lt_or_ge j ys.length with h | h
      · exact h
      · simp [List.getElem?_eq_none h] at hv
    rw [addr, hc2 j (by have := hy.len; omega)]
    simpa [List.getElem?_eq_getElem hj] using hv
  have hrun := run_append_grow (P := P) (w := w) t ty e i (.int k 0) ht hi hz ⟨b, off, none⟩ n n (xs.map (Value.int k)) (by simp [hx.len, hsize]) ho ⟨b2, off2, none⟩ m c (ys.map (Value.int k)) (by simp [hy.len, hsize]) hw (by omega) (by omega)
    (growslice_fits (by omega) (by rw [hby]; exact hbytes))
  refine ⟨_, _, hrun, ⟨by simp [hx.len, hy.len], .inr ⟨w.heap.size, _, _, rfl, Nat.le_refl _, heap_alloc_new w.drew _, grownCap_ge w _ _ _, grownCap_le_maxLen w _ _ _ h63, ?_, ?_⟩⟩, ((Below.refl _ _).drew).alloc (Nat.le_refl _) _⟩
  · have := grownCap_ge w (n + m) n e
    simp only [Array.size_append, List.size_toArray, List.length_map, size_zeroCells, hx.len, hy.len]
    simp [Value.cells]
    omega
  · have e1 : n + m = (xs.map (Value.int k) ++ ys.map (Value.int k)).length := by simp [hx.len, hy.len]
    simp only [Array.toList_append, List.map_append, Nat.mul_one]
    rw [e1]
    exact List.take_left

set_option maxHeartbeats 4000000 in
set_option maxRecDepth 100000 in
theorem landHeader (A : Option Addr) (n c : Nat) (l : List (List UInt8)) (w : World) (hl : l.length = n) (hn : n ≤ 64) (h : Strs w A l) (hs : ∀ s ∈ l, s.length ≤ 16) :
    Calls Tryz.prog 34 #[.slice A n c] w (GotBytes w (headL l)) := by
  obtain ⟨i0, hi, hz0, hz1, hz2⟩ := info_parts info5s
  have q63 : maxLen = 9223372036854775807 := rfl
  have HS := Lib.hid hs
  have HD := Lib.hid h
  have HL := Lib.hid hl
  have hnm : (n : Int) % 256 = (n : Int) := by omega
  obtain ⟨F, hF⟩ : ∃ F : Nat → List Int, F = fun k => [87, 71, 76, 1, (n : Int)] ++ (l.take k).flatMap nameB := ⟨_, rfl⟩
  have hF0 : F 0 = [87, 71, 76, 1, (n : Int)] := by rw [hF]; simp
  have hFn : F n = frontL l := by rw [hF]; unfold frontL; rw [hl, hnm]; simp only; rw [List.take_of_length_le (by omega)]
  have hFs : ∀ k, k < n → F (k + 1) = F k ++ nameB (l.getD k []) := fun k hk => by rw [hF]; simp only; rw [flat_next l k (by omega), List.append_assoc]
  have hFl : ∀ k, k ≤ n → (F k).length ≤ 5 + 17 * 64 := fun k hk => by
    rw [hF]
    simp only [List.length_append]
    have := flat_len (names := l.take k) (m := 16) (fun s h => hs s (List.mem_of_mem_take h))
    have e : (l.take k).length ≤ 64 := by rw [List.length_take]; omega
    have : ([87, 71, 76, 1, (n : Int)] : List Int).length = 5 := rfl
    omega
  have HF0 := Lib.hid hF0
  have HFn := Lib.hid hFn
  have HFs := Lib.hid hFs
  have HFl := Lib.hid hFl
  have HHB := Lib.hid (u8_all (front_bytes l))
  have HNM := Lib.hid hnm
  clear hF hF0 hFn hFs hFl hnm hs h hl
  have kc := fun (w : World) (C : Array Value) (n c : Nat) => Lib.run_convert_bytes_const (P := Tryz.prog) w 28 5 C n c Tryz.underlying28 Tryz.underlying5
  obtain ⟨w0, hw0⟩ : ∃ w0, w.alloc (.cells #[.int .u8 87, .int .u8 71, .int .u8 76, .int .u8 1] 5 (4, 5)) = w0 := ⟨_, rfl⟩
  have hs0 : w0.heap.size = w.heap.size + 1 := by rw [← hw0]; simp
  have hb0 : Below w.heap.size w w0 := by rw [← hw0]; exact (Below.refl _ _).alloc (Nat.le_refl _) _
  have hr0 : Rd .u8 w0 (some ⟨w.heap.size, 0, none⟩) 4 [87, 71, 76, 1] := by rw [← hw0]; exact Rd.lit w 5 (4, 5) [87, 71, 76, 1] (by decide)
  obtain ⟨w1, hw1⟩ : ∃ w1, w0.alloc (.cells #[.int .u8 (n : Int)] 5) = w1 := ⟨_, rfl⟩
  have hb1 : Below w.heap.size w w1 := by rw [← hw1]; exact hb0.alloc hb0.size _
  obtain ⟨v2, w2, hrun, hown2, hb2⟩ := run_append_new (P := Tryz.prog) (w := w1) .u8 28 28 5 i0 1 Tryz.underlying28 hi hz0 hz1 hz2 (some ⟨w.heap.size, 0, none⟩) 4 [87, 71, 76, 1] (by decide) (by rw [← hw1]; exact hr0.alloc _) (some ⟨w.heap.size + 1, 0, none⟩) 1 1 [(n : Int)] (by decide)
    (by rw [← hw1, ← hs0]; exact Rd.lit w0 5 (0, 0) [(n : Int)] (one_byte (by omega))) (by omega) (by omega)
  have HO2 := Lib.hid (show w2.ownsRow w.heap.size 5 1 v2 (F 0).length ((F 0).map (Value.int .u8)) by rw [HF0.out]; exact own_weaken hown2 hb1.size)
  have HB2 := Lib.hid (hb1.trans (hb2.mono hb1.size))
  clear hr0 hb0 hb1 hb2 hown2
  go_enter Tryz.func34, Tryz.ntmps34
  go_wp2_with (at_builtin; refine Lib.wpList_append_run _ rfl _ _ _ _ rfl _ _ rfl rfl _ _ hrun ?_)
  clear kc hw0 hs0 hw1 hrun w0 w1
  go_loopw [3, 15] (fun v i wr => ∃ k : Nat, k ≤ n ∧ i = .int .i64 k ∧ wr.ownsRow w.heap.size 5 1 v (F k).length ((F k).map (Value.int .u8)) ∧ Below w.heap.size w wr) (fun _ i _ => n - (intOf i).toNat)
  case atStart => exact ⟨0, Nat.zero_le _, rfl, HO2.out, HB2.out⟩
  case round =>
    clear HO2 HB2
    obtain ⟨k, hk, rfl, hrow, hBr⟩ := hrel
    have hsz := hBr.size
    by_cases hkn : k < n
    · obtain ⟨b, off, rfl, hcell⟩ := strs_cell (HD.out.below hBr) (k := k) (by rw [HL.out]; exact hkn)
      have hgl : (l.getD k []).length ≤ 16 := HS.out _ (by
        have hk2 : k < l.length := by rw [HL.out]; exact hkn
        have e : l.getD k [] = l[k] := by simp [List.getD, hk2]
        rw [e]; exact List.getElem_mem _)
      have HN := Lib.hid (HFs.out k hkn)
      have hfl := HFl.out k hk
      obtain ⟨sb, hsb⟩ : ∃ sb : ByteArray, (⟨(l.getD k []).toArray⟩ : ByteArray) = sb := ⟨_, rfl⟩
      have hsz2 : sb.size ≤ 16 := by rw [← hsb]; show (l.getD k []).toArray.size ≤ 16; simpa using hgl
      have hdl : sb.data.toList = l.getD k [] := by rw [← hsb]
      rw [hsb] at hcell
      have HDL := Lib.hid hdl
      have hlen : sb.size = (l.getD k []).length := by rw [← hdl]; exact Array.length_toList.symm
      have HLN := Lib.hid hlen
      have HROW := Lib.hid hrow
      obtain ⟨fl, hfl2⟩ : ∃ fl, (F k).length = fl := ⟨_, rfl⟩
      rw [hfl2] at HROW hfl
      have HFL2 := Lib.hid hfl2
      clear hsb hdl hlen hrow hfl2 hgl
      go_wp2_with (first
        | (at_builtin; refine wpList_append_str rfl _ _ 28 9 rfl w.heap.size 5 i0 Tryz.underlying28 Tryz.underlying9 hi hz0 hz1 hz2 _ _ _ rfl hown2 sb rfl (by omega) (by omega) hsz3 ?_; intro v4 w4 hown4 hgr4)
        | (at_builtin; refine wpList_append_ints rfl _ _ 28 rfl .u8 w.heap.size 5 i0 1 Tryz.underlying28 hi hz0 hz1 hz2 _ _ _ rfl (HROW.out.alloc _) _ 1 1 [(sb.size : Int)] rfl (Rd.lit wr 5 (0, 0) [(sb.size : Int)] (one_byte (by omega))) (by omega) (by omega) (le_alloc hsz) ?_; intro v2 w2 hown2 hgr2; have hB2 := (hBr.alloc hsz (.cells #[.int .u8 (sb.size : Int)] 5)).grown hgr2 (le_alloc hsz) (fun q hq => (HROW.out.lt q hq).1); have hsz3 := hB2.size))
      go_roundw
      case rel =>
        refine ⟨k + 1, by omega, by go_num, ?_, hB2.grown hgr4 hsz3 (fun q hq => (hown2.lt q hq).1)⟩
        have e1 : F (k + 1) = F k ++ [(sb.size : Int)] ++ toI sb.data.toList := by
          rw [HN.out, HDL.out, List.append_assoc]
          have e2 : ((l.getD k []).length : Int) % 256 = (sb.size : Int) := by have := HLN.out; omega
          unfold nameB
          rw [e2]
          rfl
        rw [e1]
        exact row_more (by rw [List.length_append, List.length_append, size_toI, HFL2.out]; rfl) rfl hown4
      case measure => simp [intOf]; omega
    · obtain rfl : k = n := by omega
      have hfl := HFl.out k hk
      rw [HFn.out] at hrow hfl
      obtain ⟨A2, c2, rfl, hc2, hm2, -, -⟩ := own_slice hrow
      have hrd := Rd.own hrow HHB.out
      obtain ⟨fl, hfl2⟩ : ∃ fl, (frontL l).length = fl := ⟨_, rfl⟩
      rw [hfl2] at hrd hc2 hfl ⊢
      have FP := Lib.hid (sumPut A2 fl c2 (frontL l) wr hc2 hm2 (by omega) hrd)
      have HB := Lib.hid hBr
      have HFL := Lib.hid hfl2
      clear hrow hBr hrd hfl2
      go_wp2_with fail
      refine FP.out.mono ?_
      intro e w5 hmade
      obtain ⟨v5, rfl, hown5, hB5⟩ := hmade
      go_wp2
      go_ret
      refine ⟨_, rfl, row_more ?_ rfl (own_weaken hown5 HB.out.size), HB.out.trans (hB5.mono HB.out.size)⟩
      unfold headL
      rw [List.length_append, HFL.out]
      rfl

set_option maxHeartbeats 4000000 in
set_option maxRecDepth 100000 in
theorem landHead (A : Option Addr) (n c : Nat) (zs : List Int) (w : World) (hnc : n ≤ c) (hc : c ≤ maxLen) (_hn : n ≤ 58000000) (h : Rd .u8 w A n zs) :
    Calls Tryz.prog 63 #[.slice A n c] w (GotHead w zs 5) := by
  have q63 : maxLen = 9223372036854775807 := rfl
  have hby := all_u8 h.all
  have HF := Lib.hid (landNamesOf A n c zs w hnc hc h)
  obtain ⟨hl255, hs255⟩ := names_sizes hby
  have HOK := Lib.hid (fun h1 h2 => land_ok (b := zs) h1 h2)
  have HBAD := Lib.hid (fun h1 => land_bad hby h1)
  obtain ⟨l, hl⟩ : ∃ l, namesL zs = l := ⟨_, rfl⟩
  rw [hl] at HF hl255 hs255 HOK HBAD
  obtain ⟨m, hm⟩ : ∃ m, l.length = m := ⟨_, rfl⟩
  rw [hm] at HF hl255
  have HM := Lib.hid hm
  have HS := Lib.hid hs255
  have HD := Lib.hid h
  clear h hl hm hs255 hby
  go_enter Tryz.func63, Tryz.ntmps63
  go_wp2_with fail
  refine HF.out.mono ?_
  rintro e w1 ⟨A1, c1, rfl, hown1, hB1⟩
  obtain ⟨-, hstr, hmc, hcm⟩ := strs_own hown1
  have FN := landNames A1 m c1 l w1 HM.out hmc hstr (fun s hs => by have := HS.out s hs; omega)
  have HO1 := Lib.hid hown1
  have HB1 := Lib.hid hB1
  have HST := Lib.hid hstr
  clear hown1 hB1 hstr HF
  cases hok : namesOk l
  · rw [hok] at FN
    have HN := Lib.hid FN
    have hE := HBAD.out (fun e => by rw [hok] at e; cases e)
    clear FN hok
    go_wp2_with fail
    refine HN.out.mono ?_
    rintro e w2 ⟨rfl, rfl⟩
    go_wp2
    refine bodyPost_ret (v := .tuple #[.slice none 0 0, .int .i64 0, .int .i64 5]) (by simp [results, Tryz.results63, go_sem]) rfl ?_
    exact head_none hE HB1.out
  rw [hok] at FN
  have HN := Lib.hid FN
  have HOK1 := Lib.hid (HOK.out hok)
  have HBAD1 := Lib.hid (fun h => HBAD.out (fun _ => h))
  have FH := landHeader A1 m c1 l w1 HM.out (by have := ((namesOk_iff _).1 hok).1; have := HM.out; omega) HST.out (fun s hs => (names_le hok s hs).2)
  have HH := Lib.hid FH
  have hhl := front_len hok
  have HHL := Lib.hid (head_len hok)
  have HWF := Lib.hid (u8_all (head_bytes l))
  clear FN hok FH HOK HBAD hhl
  go_wp2_with fail
  refine HN.out.mono ?_
  rintro e w2 ⟨rfl, rfl⟩
  go_wp2_with fail
  refine HH.out.mono ?_
  rintro e w3 hmade
  obtain ⟨A3, c3, rfl, hr3, hc3, hm3, -, -, hB3⟩ := made_slice hmade HWF.out
  have HB3 := Lib.hid (HB1.out.trans (hB3.mono HB1.out.size))
  have HO3 := Lib.hid (below_row HO1.out hB3)
  obtain ⟨hl, hhl⟩ : ∃ hl, (headL l).length = hl := ⟨_, rfl⟩
  rw [hhl] at hr3 hc3 HOK1 HBAD1 HHL ⊢
  have FP := hasPrefix A n c zs A3 hl c3 (headL l) w3 hnc (by omega) (by omega) (HD.out.below HB3.out) hr3
  clear hmade hB3 hr3 HN HH
  by_cases hp : zs.take hl = headL l
  · have hE := HOK1.out hp
    rw [decide_eq_true hp] at FP
    have HP := Lib.hid FP
    have HEE := Lib.hid hE
    clear FP hp hhl hE
    go_wp2_with fail
    refine HP.out.mono ?_
    rintro e w4 ⟨rfl, rfl⟩
    go_wp2
    refine bodyPost_ret (v := .tuple #[.slice A1 m c1, .int .i64 hl, .int .i64 0]) (by simp [results, Tryz.results63, go_sem]) rfl ?_
    unfold GotHead
    rw [HEE.out]
    simp only
    rw [HM.out]
    exact ⟨A1, c1, rfl, HO3.out, HB3.out⟩
  · have hE := HBAD1.out hp
    rw [decide_eq_false hp] at FP
    have HP := Lib.hid FP
    clear FP hp hhl
    go_wp2_with fail
    refine HP.out.mono ?_
    rintro e w4 ⟨rfl, rfl⟩
    go_wp2
    refine bodyPost_ret (v := .tuple #[.slice none 0 0, .int .i64 0, .int .i64 5]) (by simp [results, Tryz.results63, go_sem]) rfl ?_
    exact head_none hE HB3.out
end Go.Proofs.YtimbbfneaaglbaaGreat.Log

namespace Go.Proofs.YtimbbfneaaglbaaGreat.Log
open Go.RowKit Go.Proofs.YtimbbfneaaglbaaGreat.Ints Go.Proofs.YtimbbfneaaglbaaGreat.Mem Go.Proofs.YtimbbfneaaglbaaGreat.SumMath Go.Proofs.YtimbbfneaaglbaaGreat.SumWalks Go.Proofs.YtimbbfneaaglbaaGreat.Trace Go.Proofs.YtimbbfneaaglbaaGreat.Record

set_option maxHeartbeats 4000000 in
set_option maxRecDepth 100000 in
theorem landEncode (NA : Option Addr) (nn nc : Nat) (EA : Option Addr) (ne ec : Nat) (t : Tr) (w : World) (h : TrOk Any w NA nn nc EA ne ec t) (hne : ne ≤ 1048576) :
    Calls Tryz.prog 12 #[.agg #[.slice NA nn nc, .slice EA ne ec]] w (GotBytes w (encL t)) := by
  have q63 : maxLen = 9223372036854775807 := rfl
  obtain ⟨i0, hi, hz0, hz1, hz2⟩ := info_parts info5s
  have HD := Lib.hid h
  have b0 := boxT_at (Below.refl (w.heap.size + 1) (boxT w NA nn nc EA ne ec))
  have hb1 : Below w.heap.size w (boxT w NA nn nc EA ne ec) := boxT_below (Below.refl _ _)
  have FM := landMay NA nn nc EA ne ec t (boxT w NA nn nc EA ne ec) (h.below hb1)
  obtain ⟨W1, hW1⟩ : ∃ W1, boxT w NA nn nc EA ne ec = W1 := ⟨_, rfl⟩
  have hs1 : W1.heap.size = w.heap.size + 1 := by rw [← hW1]; simp
  have hW : w.alloc (.cells #[.slice NA nn nc, .slice EA ne ec] 33) = W1 := hW1
  rw [hW1] at b0 hb1 FM
  obtain ⟨x0, x1⟩ := b0
  have HB1 := Lib.hid hb1
  rcases hm : mayT t
  · rw [hm] at FM
    have HM := Lib.hid FM
    have HE := Lib.hid (show encL t = [] by unfold encL; rw [hm]; rfl)
    clear hW1 h hm FM hb1
    go_enter Tryz.func12, Tryz.ntmps12
    go_wp2_with fail
    refine HM.out.mono ?_
    rintro e w2 ⟨rfl, hB2⟩
    go_wp2
    go_ret
    unfold GotBytes
    rw [HE.out]
    exact ⟨_, rfl, World.ownsRow_nil _ _ _ _, HB1.out.trans (hB2.mono HB1.out.size)⟩
  · rw [hm] at FM
    have HM := Lib.hid FM
    have hnames := (mayT_iff t).1 hm
    obtain ⟨E, hE⟩ : ∃ E : Nat → List Int, E = fun k => headL t.names ++ (t.events.take k).flatMap recR := ⟨_, rfl⟩
    have hE0 : E 0 = headL t.names := by rw [hE]; simp
    have hEn : E ne = encL t := by rw [hE]; unfold encL; rw [hm, if_pos rfl]; simp only; rw [List.take_of_length_le (by rw [h.elen]; exact Nat.le_refl _)]
    have hEs : ∀ k, k < ne → E (k + 1) = E k ++ recR (t.events.getD k noEv) := fun k hk => by
      have hk2 : k < t.events.length := by rw [h.elen]; exact hk
      rw [hE]
      simp only
      rw [recs_next _ _ hk2, List.append_assoc]
    have hEl : ∀ k, k ≤ ne → (E k).length ≤ 100000000 := fun k hk => by
      rw [hE]
      simp only [List.length_append]
      have h1 := head_len hnames.1
      have h2 := recs_len (es := t.events.take k) (fun e he => may_len hm e (List.mem_of_mem_take he))
      have h3 : (t.events.take k).length ≤ ne := by rw [List.length_take]; have := h.elen; omega
      omega
    have hEb : ∀ k, k ≤ ne → ∀ z ∈ E k, (Lit.int .u8 z).wf = true := fun k hk z hz => by
      rw [hE] at hz
      rcases List.mem_append.1 hz with h1 | h1
      · exact u8_all (head_bytes _) z h1
      · obtain ⟨e, he, h2⟩ := List.mem_flatMap.1 h1
        obtain ⟨i, hi, rfl⟩ := List.getElem_of_mem (List.mem_of_mem_take he)
        have e1 : t.events.getD i noEv = t.events[i] := by simp [List.getD, hi]
        rw [← e1] at h2
        exact u8_all (rec_bytes (may_ids hm hi).2) z h2
    have HE0 := Lib.hid hE0
    have HEn := Lib.hid hEn
    have HEs := Lib.hid hEs
    have HEl := Lib.hid hEl
    have HEb := Lib.hid hEb
    have FH := Lib.hid (fun W (hb : Below w.heap.size w W) => landHeader NA nn nc t.names W h.nlen (by have := ((namesOk_iff _).1 hnames.1).1; rw [h.nlen] at this; exact this) (h.names.below hb) (fun s hs => (names_le hnames.1 s hs).2))
    have HMAY := Lib.hid hm
    clear hE hE0 hEn hEs hEl hEb hW1 h hm FM hb1 hnames
    go_enter Tryz.func12, Tryz.ntmps12
    go_wp2_with fail
    refine HM.out.mono ?_
    rintro e w2 ⟨rfl, hB2⟩
    have y0 := (hB2.cell (p := ⟨w.heap.size, 0, none⟩) (by rw [hs1]; exact Nat.lt_succ_self _)).trans x0
    have y1 := (hB2.cell (p := ⟨w.heap.size, 1, none⟩) (by rw [hs1]; exact Nat.lt_succ_self _)).trans x1
    have HB2 := Lib.hid (HB1.out.trans (hB2.mono HB1.out.size))
    have HW2 := Lib.hid (hB2)
    clear hB2 x0 x1
    go_wp2_with fail
    refine (FH.out w2 HB2.out).mono ?_
    intro e w3 hmade
    obtain ⟨v3, rfl, hown3, hB3⟩ := hmade
    have z0 := (hB3.cell (p := ⟨w.heap.size, 0, none⟩) (World.block_lt_of_cell? w2 _ y0)).trans y0
    have z1 := (hB3.cell (p := ⟨w.heap.size, 1, none⟩) (World.block_lt_of_cell? w2 _ y1)).trans y1
    have HB3 := Lib.hid (HB2.out.trans (hB3.mono HB2.out.size))
    have HO3 := Lib.hid (own_weaken hown3 HB2.out.size)
    clear hown3 hB3 y0 y1
    go_wp2_with fail
    go_loopw [3, 15] (fun v i wr => ∃ k : Nat, k ≤ ne ∧ i = .int .i64 k ∧ wr.ownsRow w.heap.size 5 1 v (E k).length ((E k).map (Value.int .u8)) ∧ Below w.heap.size w wr) (fun _ i _ => ne - (intOf i).toNat)
    case atStart => exact ⟨0, Nat.zero_le _, rfl, by rw [HE0.out]; exact HO3.out, HB3.out⟩
    case round =>
      obtain ⟨k, hk, rfl, hrow, hBr⟩ := hrel
      clear z0 z1
      by_cases hkn : k < ne
      · have HW := HD.out.below hBr
        obtain ⟨b, off, K, ck, rfl, c0, c1, hok⟩ := HW.evs.kids (k := k) (by rw [HW.elen]; exact hkn)
        have HN := Lib.hid (HEs.out k hkn)
        have hfl := HEl.out k hk
        have hevm : t.events.getD k noEv ∈ t.events := by
          have hk2 : k < t.events.length := by rw [HW.elen]; exact hkn
          have e1 : t.events.getD k noEv = t.events[k] := by simp [List.getD, hk2]
          rw [e1]; exact List.getElem_mem hk2
        have hid := (may_ids HMAY.out (k := k) (by rw [HW.elen]; exact hkn)).2
        obtain ⟨ev, hev⟩ : ∃ ev, t.events.getD k noEv = ev := ⟨_, rfl⟩
        rw [hev] at c0 c1 hok HN hid
        obtain ⟨fl, hfl2⟩ : ∃ fl, (E k).length = fl := ⟨_, rfl⟩
        rw [hfl2] at hrow hfl
        have hFL := Lib.hid hfl2
        have hal := (Below.refl _ wr).alloc (Nat.le_refl _) (.cells #[.int .u64 ev.time, .slice K ev.ids.length ck] 38)
        have FP := landPut none 0 0 [] ev K ck (wr.alloc (.cells #[.int .u64 ev.time, .slice K ev.ids.length ck] 38)) (fun _ => rfl) (Nat.le_refl _) (by omega) (Rd.nil _ _ _) (hok.below hal)
        rw [show putR [] ev = recR ev by unfold putR; rw [if_pos hid]; rfl] at FP
        have HP := Lib.hid FP
        obtain ⟨rl, hrl⟩ : ∃ rl, (recR ev).length = rl := ⟨_, rfl⟩
        have hrb : rl ≤ 100 := by have := rec_len ev; have := ids_count hid; omega
        have HRL := Lib.hid hrl
        have HWF := Lib.hid (u8_all (rec_bytes hid))
        have HB4 := Lib.hid (hBr.trans (hal.mono hBr.size))
        have HRW := Lib.hid (below_row hrow hal)
        have hbx := Blk.new wr #[.int .u64 ev.time, .slice K ev.ids.length ck] 38 [.int .u64 ev.time, .slice K ev.ids.length ck] rfl
        have y0 := hbx.cell 0 rfl
        have y1 := hbx.cell 1 rfl
        clear hev hfl2 hrow hal HW hok hbx hBr hid FP hevm hrl
        go_wp2_with fail
        refine HP.out.mono ?_
        intro e w5 hmade
        obtain ⟨A5, c5, rfl, hr5, hc5, hm5, -, -, hB5⟩ := made_slice hmade HWF.out
        rw [HRL.out] at hr5 hc5 ⊢
        have HB5 := Lib.hid (HB4.out.trans (hB5.mono HB4.out.size))
        have HRW5 := Lib.hid (below_row HRW.out hB5)
        have hsz5 := HB5.out.size
        clear hmade hB5 HRW HP
        go_wp2_with (at_builtin; refine wpList_append_ints rfl _ _ 28 rfl .u8 w.heap.size 5 i0 1 Tryz.underlying28 hi hz0 hz1 hz2 _ _ _ rfl HRW5.out _ _ _ (recR ev) rfl hr5 (by omega) (by omega) hsz5 ?_; intro v6 w6 hown6 hgr6)
        go_roundw
        case rel => exact ⟨k + 1, by omega, by go_num, by rw [HN.out]; exact row_more (by rw [List.length_append, hFL.out, HRL.out]) rfl hown6, HB5.out.grown hgr6 hsz5 (fun q hq => (HRW5.out.lt q hq).1)⟩
        case measure => simp [intOf]; omega
      · obtain rfl : k = ne := by omega
        go_wp2
        go_ret
        unfold GotBytes
        rw [← HEn.out]
        exact ⟨_, rfl, hrow, hBr⟩
end Go.Proofs.YtimbbfneaaglbaaGreat.Log
