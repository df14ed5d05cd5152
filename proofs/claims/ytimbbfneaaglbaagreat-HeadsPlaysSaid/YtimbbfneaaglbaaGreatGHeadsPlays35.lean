/-
  The laws HeadsPlays and HeadsRaw (stage 13), over contracts of a landed pool. By an AI agent.
  Rows of heads: slices.Insert at one head (stage 13, the landed code). By an AI agent.
-/
import Derived.Test.YtimbbfneaaglbaaGreatGHeadsPlays26
import Derived.Test.YtimbbfneaaglbaaGreatGHeadsPlays34
import Derived.Test.YtimbbfneaaglbaaGreatGHeadsPlays33
import Derived.Test.YtimbbfneaaglbaaGreatGHeadsPlays31
import Derived.Test.YtimbbfneaaglbaaGreatGHeadsPlays7
import Derived.Maps.AppendAt
import Derived.Shelf.Spec.SlicesInsert
import Derived.Lib.AppendZerosOnto
import Derived.Lib.Overlaps
import Derived.Laws.CopyRow
import Derived.Deep.RegionLaw
namespace Go.Proofs.YtimbbfneaaglbaaGreat.Heads
open Go.RowKit Go.Proofs.YtimbbfneaaglbaaGreat.Ints Go.Proofs.YtimbbfneaaglbaaGreat.Mem Go.Proofs.YtimbbfneaaglbaaGreat.Trace Go.Proofs.YtimbbfneaaglbaaGreat.Record Go.Proofs.YtimbbfneaaglbaaGreat.Log Go.Proofs.YtimbbfneaaglbaaGreat.Src

set_option maxHeartbeats 8000000 in
set_option maxRecDepth 100000 in
theorem lawHeadsPlays {L : LPool} (C : PoolC L) (start : Int) (A : Option Addr) (n c : Nat) (ns : List Int) (B : Option Addr) (m d : Nat) (sc : List Int) (fault size : Int) (LA : Option Addr) (ln lc : Nat) (rows : List (List Int)) (w : World) (h0 : 0 ≤ start ∧ start ≤ 18446744073709551615) (h : Rd .u16 w A n ns) (hc : n ≤ maxLen)
    (hs : Rd .i64 w B m sc) (hm : m * 8 ≤ 140737488351232) (hfa : small64 fault) (hsz : small64 size) (hrl : rows.length = ln) (hra : IntRows [.u8, .i64, .i64] w LA rows) (hlc : ln ≤ lc) (hlm : ln ≤ maxLen) :
    Calls Tryz.prog 3 #[.int .u64 start, .slice A n c, .slice B m d, .int .i64 fault, .int .i64 size, .slice LA ln lc] w fun e w' => e = .returned (.bool true) ∧ Below w.heap.size w w' := by
  have q63 : maxLen = 9223372036854775807 := rfl
  have HAW := Lib.hid (fun W => lawAwake C W)
  by_cases h300 : 300 < ln
  · have hg : (ln : Int) > 300 := by omega
    clear h hs hra
    go_enter Tryz.func3, Tryz.ntmps3
    go_wp2_with fail
    refine (HAW.out w).mono ?_
    rintro e w1 ⟨rfl, hB⟩
    have HB := Lib.hid hB
    clear hB
    go_wp2_with fail
    go_ret
    exact ⟨rfl, HB.out⟩
  have hg : ¬ ((ln : Int) > 300) := by omega
  have hz : ∀ z ∈ ns, 0 ≤ z := fun z hz => (wf_u16 (h.all z hz)).1
  have HM := Lib.hid (lawMake start A n c ns w h0 h hc)
  have hms := (make_small start ns).1
  obtain ⟨he1, he2, he3⟩ := enc_small (start := start) hz
  obtain ⟨t, ht⟩ : ∃ t, makeM start ns = t := ⟨_, rfl⟩
  rw [ht] at HM hms he1 he2 he3
  have HMS := Lib.hid hms
  have HWF := Lib.hid (u8_all he3)
  have HP := Lib.hid (fun A1 c1 W (hb : Below w.heap.size w W) (hc1 : (encL t).length ≤ c1) (hm1 : c1 ≤ maxLen) (hr : Rd .u8 W A1 (encL t).length (encL t)) => lawPlays C A1 _ c1 (encL t) B m d sc fault size LA ln lc rows W hc1 hm1 (by omega) hr (hs.below hb) hm hfa hsz hrl (hra.below hb) (by omega) hlc)
  clear h hs hra hms he1 he2 he3 ht hz
  go_enter Tryz.func3, Tryz.ntmps3
  go_wp2_with fail
  refine HM.out.mono ?_
  rintro e w1 ⟨NA, nn, nc, EA, ne, ec, rfl, htr, hB1⟩
  have HB1 := Lib.hid hB1
  have HE := Lib.hid (refEncode NA nn nc EA ne ec t w1 htr (by have := htr.elen; have := HMS.out; omega))
  clear htr hB1
  go_wp2_with fail
  refine HE.out.mono ?_
  intro e w2 hmade
  obtain ⟨A2, c2, rfl, hr2, hc2, hm2, -, -, hB2⟩ := made_slice hmade HWF.out
  have HB2 := Lib.hid (HB1.out.trans (hB2.mono HB1.out.size))
  have HPP := Lib.hid (HP.out A2 c2 w2 HB2.out hc2 hm2 hr2)
  clear hmade hr2 hB2 HP
  go_wp2_with fail
  refine HPP.out.mono ?_
  rintro e w3 ⟨rfl, hB3⟩
  have HB3 := Lib.hid (HB2.out.trans (hB3.mono HB2.out.size))
  clear hB3
  go_wp2_with fail
  refine (HAW.out w3).mono ?_
  rintro e w4 ⟨rfl, hB4⟩
  have HB4 := Lib.hid (HB3.out.trans (hB4.mono HB3.out.size))
  clear hB4
  go_wp2_with fail
  go_ret
  exact ⟨rfl, HB4.out⟩

theorem ids_next13 {l : List Ev} {i : Nat} (h : ∀ j, j < i → (l.getD j noEv).ids.length ≤ 300) (h2 : (l.getD i noEv).ids.length ≤ 300) : ∀ j, j < i + 1 → (l.getD j noEv).ids.length ≤ 300 := fun j hj => by
  by_cases e : j = i
  · rw [e]; exact h2
  · exact h j (by omega)
def pqr : List (List UInt8) := [[112], [113], [114]]
theorem strs_pqr (w : World) (T : TypeId) : Strs (w.alloc (.cells #[.string { data := #[112] }, .string { data := #[113] }, .string { data := #[114] }] T)) (some ⟨w.heap.size, 0, none⟩) pqr := fun _ => ⟨w.heap.size, 0, rfl, fun j s hs => by
  rw [Nat.zero_add]
  match j, hs with
  | 0, hs => injection hs with hs; subst hs; exact box_cell 0 _ rfl
  | 1, hs => injection hs with hs; subst hs; exact box_cell 1 _ rfl
  | 2, hs => injection hs with hs; subst hs; exact box_cell 2 _ rfl⟩

set_option maxHeartbeats 16000000 in
set_option maxRecDepth 100000 in
theorem lawHeadsRaw {L : LPool} (C : PoolC L) (A0 : Option Addr) (n0 c0 : Nat) (bs : List Int) (start : Int) (A : Option Addr) (n c : Nat) (ns : List Int) (p q x : Nat) (EA : Option Addr) (ne ec : Nat) (l : List Ev) (B : Option Addr) (m d : Nat) (sc : List Int) (fault size : Int) (LA : Option Addr) (ln lc : Nat) (rows : List (List Int)) (w : World)
    (hb0 : Rd .u8 w A0 n0 bs) (hn0 : n0 ≤ 58000000) (hnc0 : n0 ≤ c0) (hc0 : c0 ≤ maxLen) (h0 : 0 ≤ start ∧ start ≤ 18446744073709551615) (h : Rd .u16 w A n ns) (hc : n ≤ maxLen) (hp : p ≤ 65535) (hq : q ≤ 65535) (hx : x ≤ 255) (hel : l.length = ne) (hec : ne ≤ maxLen) (hE : Evs Any w EA l)
    (hs : Rd .i64 w B m sc) (hm : m * 8 ≤ 140737488351232) (hfa : small64 fault) (hsz : small64 size) (hrl : rows.length = ln) (hra : IntRows [.u8, .i64, .i64] w LA rows) (hlc : ln ≤ lc) (hlm : ln ≤ maxLen) :
    Calls Tryz.prog 4 #[.slice A0 n0 c0, .int .u64 start, .slice A n c, .int .u16 (p : Int), .int .u16 (q : Int), .int .u8 (x : Int), .slice EA ne ec, .slice B m d, .int .i64 fault, .int .i64 size, .slice LA ln lc] w fun e w' => e = .returned (.bool true) ∧ Below w.heap.size w w' := by
  have q63 : maxLen = 9223372036854775807 := rfl
  have HA := Lib.hid (fun W => lawAwake C W)
  by_cases h300 : 300 < ln
  · have hg : (ln : Int) > 300 := by omega
    clear h hs hra hb0 hE
    go_enter Tryz.func4, Tryz.ntmps4
    go_wp2_with fail
    refine (HA.out w).mono ?_
    rintro e w' ⟨rfl, hB⟩
    go_wp2
    go_ret
    exact ⟨rfl, hB⟩
  have hg : ¬ ((ln : Int) > 300) := by omega
  by_cases h4 : ne > 300
  · have h4' : (ne : Int) > 300 := by omega
    clear h hs hra hb0 hE
    go_enter Tryz.func4, Tryz.ntmps4
    go_wp2_with fail
    refine (HA.out w).mono ?_
    rintro e w' ⟨rfl, hB⟩
    go_wp2
    go_ret
    exact ⟨rfl, hB⟩
  have h4' : ¬ ((ne : Int) > 300) := by omega
  have hz : ∀ z ∈ ns, 0 ≤ z := fun z hz => (wf_u16 (h.all z hz)).1
  have HEV := Lib.hid hE
  have HEL := Lib.hid hel
  have HM := Lib.hid (fun W (hb : Below w.heap.size w W) => lawMake start A n c ns W h0 (h.below hb) hc)
  have hms := (make_small start ns).1
  obtain ⟨he1, he2, he3⟩ := enc_small (start := start) hz
  obtain ⟨t, ht⟩ : ∃ t, makeM start ns = t := ⟨_, rfl⟩
  rw [ht] at HM hms he1 he2 he3
  have HMS := Lib.hid hms
  have HWF := Lib.hid (u8_all he3)
  have HBY := Lib.hid he3
  have HP := Lib.hid (fun A1 n1 c1 (zs : List Int) fa W (hb : Below w.heap.size w W) (hn1 : n1 ≤ 58000000) (hc1 : n1 ≤ c1) (hm1 : c1 ≤ maxLen) (hr : Rd .u8 W A1 n1 zs) (hfa : small64 fa) => lawPlays C A1 n1 c1 zs B m d sc fa size LA ln lc rows W hc1 hm1 hn1 hr (hs.below hb) hm hfa hsz hrl (hra.below hb) (by omega) hlc)
  have HB0 := Lib.hid hb0
  have HLE := Lib.hid (show (encL t).length ≤ 6000 from he2)
  clear h hs hra hms he1 he2 he3 ht hz hE hel hb0
  go_enter Tryz.func4, Tryz.ntmps4
  go_wp2_with fail
  go_loopw [36] (fun iv wr => ∃ i : Nat, i ≤ ne ∧ iv = .int .i64 i ∧ Below w.heap.size w wr ∧ Hid (∀ j, j < i → (l.getD j noEv).ids.length ≤ 300)) (fun iv _ => ne - (intOf iv).toNat)
  case atStart => exact ⟨0, Nat.zero_le _, rfl, Below.refl _ _, fun j hj => absurd hj (Nat.not_lt_zero _)⟩
  case round =>
    obtain ⟨i, hi, rfl, hBr, HID⟩ := hrel
    by_cases hin : i < ne
    · obtain ⟨b', off, K, ck, rfl, c0', c1, hokk⟩ := (HEV.out.below hBr).kids (k := i) (by rw [HEL.out]; exact hin)
      have HNX := Lib.hid (fun h => ids_next13 HID.out (i := i) h)
      obtain ⟨ev, hev⟩ : ∃ ev, l.getD i noEv = ev := ⟨_, rfl⟩
      rw [hev] at c0' c1 hokk HNX
      have hmm := hokk.2.2
      obtain ⟨m3, hm3⟩ : ∃ m3, ev.ids.length = m3 := ⟨_, rfl⟩
      rw [hm3] at c1 hmm HNX
      have hx := Blk.new wr #[.int .u64 ev.time, .slice K m3 ck] 38 [.int .u64 ev.time, .slice K m3 ck] rfl
      have x1 := hx.cell 1 rfl
      have HAL := Lib.hid (hBr.alloc hBr.size (.cells #[.int .u64 ev.time, .slice K m3 ck] 38))
      have hmc : (m3 : Int) ≤ 9223372036854775807 := by omega
      by_cases h5 : m3 > 300
      · have h5' : (m3 : Int) > 300 := by omega
        clear hev hm3 hokk hx hmm HNX
        go_wp2_with fail
        refine (HA.out _).mono ?_
        rintro e w' ⟨rfl, hB⟩
        go_wp2
        go_ret
        exact ⟨rfl, HAL.out.trans (hB.mono HAL.out.size)⟩
      have h5' : ¬ ((m3 : Int) > 300) := by omega
      have HN2 := Lib.hid (HNX.out (by omega))
      clear hev hm3 hokk hx hmm HNX
      go_wp2_with fail
      go_roundw
      case rel => exact ⟨i + 1, by omega, by go_num, HAL.out, HN2.out⟩
      case measure => simp [intOf]; omega
    obtain rfl : i = ne := by omega
    have HBR := Lib.hid hBr
    have HF1 := Lib.hid (HP.out A0 n0 c0 bs fault wr hBr hn0 hnc0 hc0 (HB0.out.below hBr) hfa)
    have hin' : ¬ ((i : Int) < (i : Int)) := by omega
    clear hBr
    go_wp2_with fail
    refine HF1.out.mono ?_
    rintro e w1 ⟨rfl, hB1⟩
    have HB1 := Lib.hid (HBR.out.trans (hB1.mono HBR.out.size))
    have HM1 := Lib.hid (HM.out w1 HB1.out)
    clear hB1 HF1
    go_wp2_with fail
    refine HM1.out.mono ?_
    rintro e w2 ⟨NA, nn, nc, FA, nf, fc, rfl, htr, hB2⟩
    have HB2 := Lib.hid (HB1.out.trans (hB2.mono HB1.out.size))
    have HE := Lib.hid (refEncode NA nn nc FA nf fc t w2 htr (by have := htr.elen; have := HMS.out; omega))
    clear htr hB2 HM1
    go_wp2_with fail
    refine HE.out.mono ?_
    intro e w3 hmade
    obtain ⟨A3, c3, rfl, hr3, hc3, hm3, -, -, hB3⟩ := made_slice hmade HWF.out
    have HB3 := Lib.hid (HB2.out.trans (hB3.mono HB2.out.size))
    have HSP := Lib.hid (lawSpoil A3 _ c3 (encL t) p q x none 0 0 [] w3 hp hq hx hc3 (by have := HLE.out; omega) hr3 (by decide) (Rd.nil _ _ _))
    clear hmade hr3 hB3 HE
    go_wp2_with fail
    refine HSP.out.mono ?_
    intro e w4 hmade
    obtain ⟨A4, c4, rfl, hr4, hc4, hm4, -, -, hB4⟩ := made_slice hmade (cut_wf HBY.out (fun z hz => by cases hz) p q hx)
    have HB4 := Lib.hid (HB3.out.trans (hB4.mono HB3.out.size))
    have hl4 : (cutS (encL t) p q x ++ []).length ≤ 6000 := by rw [List.append_nil]; exact Nat.le_trans (cut_len _ _ _ _) HLE.out
    obtain ⟨zs4, hzs4⟩ : ∃ zs4, cutS (encL t) p q x ++ [] = zs4 := ⟨_, rfl⟩
    rw [hzs4] at hr4 hc4 hl4 ⊢
    obtain ⟨n4, hn4⟩ : ∃ n4, zs4.length = n4 := ⟨_, rfl⟩
    rw [hn4] at hr4 hc4 hl4 ⊢
    have HF4 := Lib.hid (HP.out A4 n4 c4 zs4 fault w4 HB4.out (by omega) hc4 hm4 hr4 hfa)
    clear hmade hr4 hB4 HSP hzs4 hn4
    go_wp2_with fail
    refine HF4.out.mono ?_
    rintro e w5 ⟨rfl, hB5⟩
    have HB5 := Lib.hid (HB4.out.trans (hB5.mono HB4.out.size))
    have hal := (Below.refl _ w5).alloc (Nat.le_refl _) (.cells #[.string { data := #[112] }, .string { data := #[113] }, .string { data := #[114] }] 9)
    have HB6 := Lib.hid (HB5.out.trans (hal.mono HB5.out.size))
    have hsum : (pqr.map List.length).sum ≤ 1048576 := by
      have e : (pqr.map List.length).sum = 3 := rfl
      rw [e]
      decide
    have hstr := strs_pqr w5 9
    have hpl : pqr.length = 3 := rfl
    have hev6 := HEV.out.below HB6.out
    obtain ⟨w6, hw6⟩ : ∃ w6, w5.alloc (.cells #[.string { data := #[112] }, .string { data := #[113] }, .string { data := #[114] }] 9) = w6 := ⟨_, rfl⟩
    rw [hw6] at hstr hev6 HB6
    have HSE := lawSeal (some ⟨w5.heap.size, 0, none⟩) 3 3 pqr EA i ec l w6 hpl (by omega) hstr hsum HEL.out (by omega) hev6 HID.out
    have HSE := Lib.hid HSE
    clear hB5 hal HF4
    go_wp2_with fail
    refine HSE.out.mono ?_
    rintro e w7 ⟨zs7, A7, n7, c7, rfl, hrd7, hc7, hm7, hn7, -, hB7⟩
    have HB7 := Lib.hid (HB6.out.trans (hB7.mono HB6.out.size))
    have HF7 := Lib.hid (HP.out A7 n7 c7 zs7 (-1) w7 HB7.out (by omega) hc7 hm7 hrd7 ⟨by decide, by decide⟩)
    clear hB7 hrd7 HSE
    go_wp2_with fail
    refine HF7.out.mono ?_
    rintro e w8 ⟨rfl, hB8⟩
    have HB8 := Lib.hid (HB7.out.trans (hB8.mono HB7.out.size))
    clear hB8 HF7
    go_wp2_with fail
    refine (HA.out w8).mono ?_
    rintro e w9 ⟨rfl, hB9⟩
    have HB9 := Lib.hid (HB8.out.trans (hB9.mono HB8.out.size))
    clear hB9
    go_wp2_with fail
    go_ret
    exact ⟨rfl, HB9.out⟩
end Go.Proofs.YtimbbfneaaglbaaGreat.Heads

namespace Go.Proofs.YtimbbfneaaglbaaGreat.Heads
open Go.RowKit Go.Proofs.YtimbbfneaaglbaaGreat.Ints Go.Proofs.YtimbbfneaaglbaaGreat.Mem

theorem infoHd : (Tryz.prog.info? 78).map (fun i => (i.zero, i.size, i.bytes)) = some (some (.agg #[.int .i64 0, .int .i64 0, .int .i64 0, .int .u64 0, .int .i64 0]), 5, 40) := by kernel_rfl
theorem zero_hd : (Value.agg #[.int .i64 0, .int .i64 0, .int .i64 0, .int .u64 0, .int .i64 0]).cells = #[.int .i64 0, .int .i64 0, .int .i64 0, .int .u64 0, .int .i64 0] := rfl
section
variable {P : Program}
/-- 'copy' into a row, elements of some cells. -/
theorem run_copy_big (w : World) (dT sT ty elem : TypeId) (size g o dLen dCap : Nat) (a : Addr) (sLen sCap : Nat) (cur : Array Value) (t : TypeId) (cs : List Value)
    (hu : P.underlying dT = some (.slice elem)) (hs : (P.info? elem).map (·.size) = some size)
    (hg : w.heap[g]? = some (.cells cur t (0, 0))) (hn : cs.length = Nat.min sLen dLen * size)
    (hsrc : ∀ j v, cs[j]? = some v → w.cell? (a.add j) = some v) (hfit : o + cs.length ≤ cur.size) (h1 : ∀ v ∈ cs, v.oneCell' = true) :
    (Builtin.copy_ #[dT, sT] ty #[.slice (some ⟨g, o, none⟩) dLen dCap, .slice (some a) sLen sCap]).run P w =
      .ok (goInt (Nat.min sLen dLen)) (w.setRow g (cur.toList.take o ++ cs ++ cur.toList.drop (o + cs.length)).toArray) := by
  have hl := run_loadCells_list (P := P) w a cs hsrc
  have hst := run_storeCells_at P g o t cs 0 cur w hg (by simpa using hfit) h1
  cases hq : P.info? elem with
  | none => simp [hq] at hs
  | some i =>
    have hi : i.size = size := by simpa [hq] using hs
    simp [Builtin.copy_, run_underlying hu, Builtin.lenOf, Builtin.firstCells, sizeOf, typeInfo, hq, hi, ← hn, hl, hst]
end
/-- A variadic argument lies apart from the row. -/
theorem not_over (w : World) {vb g : Nat} (o lb cb : Nat) {us cur : Array Value} {tA tB : TypeId} (hne : vb ≠ g) (hv : w.heap[vb]? = some (.cells us tA (0, 0))) (hg : w.heap[g]? = some (.cells cur tB (0, 0))) (hk : cur.size ≠ 0) :
    (callFunc 92 #[.slice (some ⟨vb, 0, none⟩) 1 1, .slice (some ⟨g, o, none⟩) lb cb]).run Tryz.prog w = .ok (.value (.bool false)) w := by
  rw [run_callFunc_extern Tryz.func92 (by kernel_rfl) (by kernel_rfl) (by kernel_rfl) (e := Extern.SlicesOverlaps.overlaps #[73, 73] #[4]) (by kernel_rfl),
    Lib.run_overlaps_apart w 73 4 78 Tryz.underlying73 5 Tryz.sizeOf78 ⟨vb, 0, none⟩ ⟨g, o, none⟩ 1 1 lb cb hne tA tB us.size cur.size (by simp [World.shape?, hv]) (by simp [World.shape?, hg]) hk (by simp [World.frozen?, hv]) (by simp [World.frozen?, hv])]
  rfl
theorem take_mid {l a b : List Value} {k n : Nat} (h : l.take n = a ++ b) (hk : a.length = k) : l.take k = a := by
  have e : l = (a ++ b) ++ l.drop n := by rw [← h, List.take_append_drop]
  rw [e, List.append_assoc, List.take_left' hk]

/-- What a call that inserts one head leaves. -/
def GotIns (B n i : Nat) (v : Value) (xs us : List Value) (w : World) (e : Ending) (w' : World) : Prop :=
  ∃ v', e = .returned v' ∧ w'.ownsRow B 78 5 v' (n + 1) (xs.take (5 * i) ++ us ++ xs.drop (5 * i)) ∧ w.grownBy w' v.ownBlock ∧ (v'.ownBlock = v.ownBlock ∨ v'.ownBlock = some w.heap.size)

set_option maxHeartbeats 8000000 in
set_option maxRecDepth 100000 in
theorem ins_end (B : Nat) (v : Value) (n vb : Nat) (xs us : List Value) (w : World) (hrow : w.ownsRow B 78 5 v n xs) (hn : n ≤ 1000000) (hus : us.length = 5) (h1u : ∀ u ∈ us, u.oneCell' = true)
    (hvb : w.heap[vb]? = some (.cells us.toArray 78 (0, 0))) (hB : B ≤ w.heap.size) :
    Calls Tryz.prog 70 #[v, .int .i64 (n : Nat), .slice (some ⟨vb, 0, none⟩) 1 1] w (GotIns B n n v xs us w) := by
  have q63 : maxLen = 9223372036854775807 := rfl
  obtain ⟨i0, hi, hz0, hz1, hz2⟩ := info_parts infoHd
  have hxl := hrow.1
  have hcells : ∀ j u, us[j]? = some u → w.cell? ((⟨vb, 0, none⟩ : Addr).add j) = some u := fun j u hu => by
    rw [Addr.add_lit, Nat.zero_add]
    simp [World.cell?, hvb, hu]
  obtain ⟨v', w', hrun, h2, h3, -, h5⟩ := run_append_own_at (P := Tryz.prog) (w := w) B 73 73 78 i0 _ 5 40 Tryz.underlying73 hi hz0 hz1 hz2 rfl (by decide) v n xs hrow ⟨vb, 0, none⟩ 1 1 us (by omega) hcells h1u (by omega) (by omega) hB
  have HRUN := Lib.hid hrun
  have HG := Lib.hid (show GotIns B n n v xs us w (.returned v') w' from ⟨v', rfl, by
    rw [List.take_of_length_le (by omega), List.drop_of_length_le (by omega), List.append_nil]
    exact h2, h3, h5⟩)
  obtain ⟨A, c, rfl, hnc, hcm, hA, -⟩ := own_sliceN hrow
  clear hrun h2 h3 h5 hrow hcells hvb
  cases A with
  | none =>
    obtain rfl := hA rfl
    obtain rfl : n = 0 := by omega
    go_enter Tryz.func70, Tryz.ntmps70
    go_wp2_with (at_builtin; refine Lib.wpList_append_run _ rfl _ _ _ _ rfl _ _ rfl rfl _ _ HRUN.out ?_)
    go_ret
    exact HG.out
  | some a =>
    obtain ⟨ab, ao, asp⟩ := a
    go_enter Tryz.func70, Tryz.ntmps70
    go_wp2_with (at_builtin; refine Lib.wpList_append_run _ rfl _ _ _ _ rfl _ _ rfl rfl _ _ HRUN.out ?_)
    all_goals (go_ret; exact HG.out)

theorem sizeHd : (Tryz.prog.info? 78).map (·.size) = some 5 := by
  obtain ⟨i0, hi0, h0, h1, h2⟩ := info_parts infoHd
  rw [hi0]; simp [h1]
set_option maxHeartbeats 8000000 in
set_option maxRecDepth 100000 in
theorem ins_room (g n c i m vb : Nat) (cur : Array Value) (xs us : List Value) (w : World) (hg : w.heap[g]? = some (.cells cur 78 (0, 0))) (hcs : cur.size = c * 5) (htk : cur.toList.take (n * 5) = xs) (hxl : xs.length = n * 5)
    (hi : i < n) (hm : 0 < m) (hroom : n + m ≤ c) (hc63 : c ≤ 9223372036854775807) (hul : us.length = m * 5) (h1u : ∀ u ∈ us, u.oneCell' = true) (h1x : ∀ u ∈ xs, u.oneCell' = true) (hvb : w.heap[vb]? = some (.cells us.toArray 78 (0, 0))) (hne : vb ≠ g)
    (hov : ∀ o lb cb, (callFunc 92 #[.slice (some ⟨vb, 0, none⟩) m m, .slice (some ⟨g, o, none⟩) lb cb]).run Tryz.prog w = .ok (.value (.bool false)) w) :
    Calls Tryz.prog 70 #[.slice (some ⟨g, 0, none⟩) n c, .int .i64 (i : Nat), .slice (some ⟨vb, 0, none⟩) m m] w fun e w' =>
      e = .returned (.slice (some ⟨g, 0, none⟩) (n + m) c) ∧ w' = (w.drew.setRow g (cur.toList.take ((i + m) * 5) ++ xs.drop (i * 5) ++ cur.toList.drop ((i + m) * 5 + (xs.drop (i * 5)).length)).toArray).setRow g
        (((cur.toList.take ((i + m) * 5) ++ xs.drop (i * 5) ++ cur.toList.drop ((i + m) * 5 + (xs.drop (i * 5)).length))).take (i * 5) ++ us ++ ((cur.toList.take ((i + m) * 5) ++ xs.drop (i * 5) ++ cur.toList.drop ((i + m) * 5 + (xs.drop (i * 5)).length))).drop (i * 5 + us.length)).toArray := by
  have hz1 : ¬ ((m : Int) = 0) := by omega
  have hz2 : ¬ ((i : Int) = (n : Int)) := by omega
  have hdl : (xs.drop (i * 5)).length = (n - i) * 5 := by rw [List.length_drop, hxl]; omega
  have hxcell : ∀ j v, xs[j]? = some v → w.cell? ⟨g, j, none⟩ = some v := fun j v hj => by
    rw [← htk, List.getElem?_take] at hj
    split at hj
    · simp [World.cell?, hg, ← Array.getElem?_toList, hj]
    · cases hj
  have hucell : ∀ j v, us[j]? = some v → w.cell? ⟨vb, j, none⟩ = some v := fun j v hj => by simp [World.cell?, hvb, hj]
  have hw1 : IntKind.i64.wrap ((i : Int) + (m : Int)) = (i : Int) + (m : Int) := by rw [IntKind.wrap_i64]; omega
  have hb1 : (0 : Int) ≤ (i : Int) + (m : Int) := by omega
  have hin : i ≤ n := by omega
  have htn : ((i : Int) + (m : Int)).toNat = i + m := by omega
  have hb2 : ¬ (c = i + m) := by omega
  have hb3 : (i : Int) ≤ (n : Int) + (m : Int) := by omega
  have hb4 : ¬ (c = i) := by omega
  obtain ⟨cur1, hcur1⟩ : ∃ cur1, cur1 = (cur.toList.take ((i + m) * 5) ++ xs.drop (i * 5) ++ cur.toList.drop ((i + m) * 5 + (xs.drop (i * 5)).length)).toArray := ⟨_, rfl⟩
  have hs1 : cur1.size = c * 5 := by
    rw [hcur1]
    simp only [List.size_toArray, List.length_append, List.length_take, List.length_drop, Array.length_toList, hcs, hxl]
    omega
  have hcp1 : ∀ ty dc sc, (Builtin.copy_ #[73, 73] ty #[.slice (some ⟨g, (i + m) * 5, none⟩) (n + m - (i + m)) dc, .slice (some ⟨g, i * 5, none⟩) (n + m - i) sc]).run Tryz.prog w.drew = .ok (goInt (Nat.min (n + m - i) (n + m - (i + m)))) (w.drew.setRow g cur1) := fun ty dc sc => by
    rw [hcur1]
    exact run_copy_big w.drew _ _ ty 78 5 g ((i + m) * 5) (n + m - (i + m)) dc ⟨g, i * 5, none⟩ (n + m - i) sc cur 78 (xs.drop (i * 5)) Tryz.underlying73 sizeHd hg (by rw [hdl]; simp only [Nat.min_def]; split <;> omega)
      (fun j v hj => by rw [Addr.add_lit]; exact hxcell (i * 5 + j) v (by rwa [List.getElem?_drop] at hj)) (by rw [hdl, hcs]; omega) (fun v hv => h1x v (List.mem_of_mem_drop hv))
  obtain ⟨W1, hW1⟩ : ∃ W1, W1 = w.drew.setRow g cur1 := ⟨_, rfl⟩
  have hg1 : W1.heap[g]? = some (.cells cur1 78 (0, 0)) := by rw [hW1]; exact setRow_heap w.drew g cur _ _ _ hg
  have hcp2 : ∀ ty dc, (Builtin.copy_ #[73, 73] ty #[.slice (some ⟨g, i * 5, none⟩) (n + m - i) dc, .slice (some ⟨vb, 0, none⟩) m m]).run Tryz.prog W1 = .ok (goInt (Nat.min m (n + m - i))) (W1.setRow g (cur1.toList.take (i * 5) ++ us ++ cur1.toList.drop (i * 5 + us.length)).toArray) := fun ty dc =>
    run_copy_big W1 _ _ ty 78 5 g (i * 5) (n + m - i) dc ⟨vb, 0, none⟩ m m cur1 78 us Tryz.underlying73 sizeHd hg1 (by rw [hul]; simp only [Nat.min_def]; split <;> omega)
      (fun j v hj => by
        rw [Addr.add_lit, hW1, cell_setRow_other _ _ _ _ hne, Nat.zero_add]
        exact hucell j v hj) (by rw [hul, hs1]; omega) h1u
  rw [← hW1] at hcp1
  have HE := Lib.hid (show ∀ w', w' = W1.setRow g (cur1.toList.take (i * 5) ++ us ++ cur1.toList.drop (i * 5 + us.length)).toArray → w' = (w.drew.setRow g (cur.toList.take ((i + m) * 5) ++ xs.drop (i * 5) ++ cur.toList.drop ((i + m) * 5 + (xs.drop (i * 5)).length)).toArray).setRow g
        (((cur.toList.take ((i + m) * 5) ++ xs.drop (i * 5) ++ cur.toList.drop ((i + m) * 5 + (xs.drop (i * 5)).length))).take (i * 5) ++ us ++ ((cur.toList.take ((i + m) * 5) ++ xs.drop (i * 5) ++ cur.toList.drop ((i + m) * 5 + (xs.drop (i * 5)).length))).drop (i * 5 + us.length)).toArray from fun w' e => by rw [e, hW1, hcur1])
  have HC2 := Lib.hid hcp2
  clear hcp2 hW1 hcur1 hs1 hg1 hxcell hucell hdl hg hvb h1x h1u hul hxl htk hcs
  go_enter Tryz.func70, Tryz.ntmps70
  go_wp2_with (simp only [hov])
  go_region_law (refine step_copy_runI rfl _ _ 73 73 rfl _ _ (by simp [Act.eval, Act.put]) (by simp [Act.eval, Act.put]) (hcp1 _ _ _) ?_)
  go_wp2_with (refine wpList_copy_runI _ rfl (.tmp 80) (.tmp 81) 73 73 rfl _ _ rfl rfl (HC2.out _ _) ?_)
  go_ret
  exact ⟨rfl, HE.out _ (by rw [List.append_assoc])⟩

set_option maxHeartbeats 8000000 in
set_option maxRecDepth 100000 in
theorem ins_grow (g n c i m vb : Nat) (cur : Array Value) (xs us : List Value) (w : World) (hg : w.heap[g]? = some (.cells cur 78 (0, 0))) (hcs : cur.size = c * 5) (hnc : n ≤ c) (htk : cur.toList.take (n * 5) = xs) (hxl : xs.length = n * 5)
    (hi : i < n) (hm : 0 < m) (hroom : c < n + m) (hbig : n + m ≤ 2000000) (hul : us.length = m * 5) (h1u : ∀ u ∈ us, u.oneCell' = true) (h1x : ∀ u ∈ xs, u.oneCell' = true) (hvb : w.heap[vb]? = some (.cells us.toArray 78 (0, 0))) :
    Calls Tryz.prog 70 #[.slice (some ⟨g, 0, none⟩) n c, .int .i64 (i : Nat), .slice (some ⟨vb, 0, none⟩) m m] w fun e w' =>
      ∃ q cur2 R, e = .returned (.slice (some ⟨w.heap.size, 0, none⟩) (n + m) q) ∧ n + m ≤ q ∧ q ≤ maxLen ∧ cur2.size = q * 5 ∧ cur2.toList = xs.take (i * 5) ++ us ++ xs.drop (i * 5) ++ R ∧
        w'.heap[w.heap.size]? = some (.cells cur2 78 (0, 0)) ∧ w.grownBy w' none := by
  have q63 : maxLen = 9223372036854775807 := rfl
  obtain ⟨i0, hi0, hz0, hzs, hzb⟩ := info_parts infoHd
  have hz1 : ¬ ((m : Int) = 0) := by omega
  have hz2 : ¬ ((i : Int) = (n : Int)) := by omega
  have hdl : (xs.drop (i * 5)).length = (n - i) * 5 := by rw [List.length_drop, hxl]; omega
  have hglt : g < w.heap.size := (Array.getElem?_eq_some_iff.1 hg).1
  have hvlt : vb < w.heap.size := (Array.getElem?_eq_some_iff.1 hvb).1
  have hxcell : ∀ j v, xs[j]? = some v → w.cell? ⟨g, j, none⟩ = some v := fun j v hj => by
    rw [← htk, List.getElem?_take] at hj
    split at hj
    · simp [World.cell?, hg, ← Array.getElem?_toList, hj]
    · cases hj
  have hucell : ∀ j v, us[j]? = some v → w.cell? ⟨vb, j, none⟩ = some v := fun j v hj => by simp [World.cell?, hvb, hj]
  have hold : (Builtin.firstCells i0.size i (.slice (some ⟨g, 0, none⟩) i c)).run Tryz.prog w.drew = .ok (xs.take (i * 5)).toArray w.drew := by
    rw [hzs]
    exact run_firstCells_some w.drew 5 i ⟨g, 0, none⟩ i c (xs.take (i * 5)) (by rw [List.length_take, hxl]; omega) (fun j v hj => by
      rw [Addr.add_lit, Nat.zero_add]
      rw [List.getElem?_take] at hj
      split at hj
      · exact hxcell j v hj
      · cases hj)
  have hfit : Builtin.nextslicecap (i + (n + m - i)) c * i0.bytes ≤ 281474976710656 := by
    rw [hzb]
    exact growslice_fits (need := i + (n + m - i)) (by omega) (by omega)
  have hrun0 := fun ty => Lib.run_append_grow_zeros (P := Tryz.prog) w 73 3 ty 78 i0 _ .i64 .i64 Tryz.underlying73 Tryz.underlying3 hi0 hz0 (some ⟨g, 0, none⟩) i c _ hold (n + m - i) (by omega) (by rw [hzs]; decide) (by omega) (by omega) (by rw [hzb]; omega) hfit
  have e1 : i + (n + m - i) = n + m := by omega
  have e2 : ((n + m - i : Nat) : Int) = (n : Int) + (m : Int) - (i : Int) := by omega
  have hqg := grownCap_ge w (n + m) c 78
  have hqm := grownCap_le_maxLen w (n + m) c 78 (by omega)
  rw [e1, e2] at hrun0
  obtain ⟨q, hq⟩ : ∃ q, grownCap w (n + m) c 78 = q := ⟨_, rfl⟩
  rw [hq] at hqg hqm hrun0
  obtain ⟨Z, hZ, hZl⟩ : ∃ Z : List Value, (xs.take (i * 5)).toArray ++ Builtin.zeroCells (Value.agg #[.int .i64 0, .int .i64 0, .int .i64 0, .int .u64 0, .int .i64 0]).cells (n + m - i) ++ Builtin.zeroCells (Value.agg #[.int .i64 0, .int .i64 0, .int .i64 0, .int .u64 0, .int .i64 0]).cells (q - (n + m)) = (xs.take (i * 5) ++ Z).toArray ∧ Z.length = (q - i) * 5 :=
    ⟨(Builtin.zeroCells (Value.agg #[.int .i64 0, .int .i64 0, .int .i64 0, .int .u64 0, .int .i64 0]).cells (n + m - i)).toList ++ (Builtin.zeroCells (Value.agg #[.int .i64 0, .int .i64 0, .int .i64 0, .int .u64 0, .int .i64 0]).cells (q - (n + m))).toList, by apply Array.ext'; simp, by
      rw [List.length_append, Array.length_toList, Array.length_toList, size_zeroCells, size_zeroCells, zero_hd]
      show (n + m - i) * 5 + (q - (n + m)) * 5 = _
      omega⟩
  rw [hZ] at hrun0
  clear hZ hold
  have hxt : (xs.take (i * 5)).length = i * 5 := by rw [List.length_take, hxl]; omega
  obtain ⟨W0, hW0⟩ : ∃ W0, W0 = w.drew.alloc (.cells (xs.take (i * 5) ++ Z).toArray 78) := ⟨_, rfl⟩
  have hg0 : W0.heap[w.heap.size]? = some (.cells (xs.take (i * 5) ++ Z).toArray 78 (0, 0)) := by rw [hW0]; exact heap_alloc_new w.drew _
  have hold0 : ∀ b, b < w.heap.size → W0.heap[b]? = w.heap[b]? := fun b hb => by rw [hW0]; exact heap_alloc_old w.drew _ hb
  rw [← hW0] at hrun0
  obtain ⟨G, hG⟩ : ∃ G, w.heap.size = G := ⟨_, rfl⟩
  rw [hG] at hrun0 hg0 hold0 hglt hvlt
  obtain ⟨c1, hc1⟩ : ∃ c1 : List Value, c1 = xs.take (i * 5) ++ us ++ Z.drop (m * 5) := ⟨_, rfl⟩
  have hc1l : c1.length = q * 5 := by rw [hc1]; simp only [List.length_append, hxt, hul, List.length_drop, hZl]; omega
  have e3 : (xs.take (i * 5) ++ Z).take (i * 5) ++ us ++ (xs.take (i * 5) ++ Z).drop (i * 5 + us.length) = c1 := by
    rw [hc1, List.take_left' hxt, List.drop_append, List.drop_of_length_le (by omega), List.nil_append, hxt, hul, Nat.add_sub_cancel_left]
  have e4 : c1.take ((i + m) * 5) = xs.take (i * 5) ++ us := by
    rw [hc1, List.take_left' (by rw [List.length_append, hxt, hul]; omega)]
  have hcp1 : ∀ ty, (Builtin.copy_ #[73, 73] ty #[.slice (some ⟨G, i * 5, none⟩) (n + m - i) (q - i), .slice (some ⟨vb, 0, none⟩) m m]).run Tryz.prog W0 = .ok (goInt (Nat.min m (n + m - i))) (W0.setRow G c1.toArray) := fun ty => by
    rw [run_copy_big W0 _ _ ty 78 5 G (i * 5) (n + m - i) (q - i) ⟨vb, 0, none⟩ m m _ 78 us Tryz.underlying73 sizeHd hg0 (by rw [hul]; simp only [Nat.min_def]; split <;> omega)
      (fun j v hj => by rw [Addr.add_lit, Nat.zero_add, World.cell?_of_block (w := w) (a := ⟨vb, j, none⟩) (hold0 vb hvlt)]; exact hucell j v hj) (by simp only [List.size_toArray, List.length_append, hxt, hZl, hul]; omega) h1u, e3]
  obtain ⟨W1, hW1⟩ : ∃ W1, W1 = W0.setRow G c1.toArray := ⟨_, rfl⟩
  have hg1 : W1.heap[G]? = some (.cells c1.toArray 78 (0, 0)) := by rw [hW1]; exact setRow_heap W0 G _ _ _ _ hg0
  have hold1 : ∀ b, b < G → W1.heap[b]? = w.heap[b]? := fun b hb => by rw [hW1, setRow_other _ _ _ _ (by omega)]; exact hold0 b hb
  rw [← hW1] at hcp1
  have hcp2 : ∀ ty, (Builtin.copy_ #[73, 73] ty #[.slice (some ⟨G, (i + m) * 5, none⟩) (n + m - (i + m)) (q - (i + m)), .slice (some ⟨g, i * 5, none⟩) (n - i) (c - i)]).run Tryz.prog W1.drew = .ok (goInt (Nat.min (n - i) (n + m - (i + m)))) (W1.drew.setRow G (xs.take (i * 5) ++ us ++ xs.drop (i * 5) ++ c1.drop ((i + m) * 5 + (xs.drop (i * 5)).length)).toArray) := fun ty => by
    rw [run_copy_big W1.drew _ _ ty 78 5 G ((i + m) * 5) (n + m - (i + m)) (q - (i + m)) ⟨g, i * 5, none⟩ (n - i) (c - i) _ 78 (xs.drop (i * 5)) Tryz.underlying73 sizeHd hg1 (by rw [hdl]; simp only [Nat.min_def]; split <;> omega)
      (fun j v hj => by
        rw [Addr.add_lit]
        show W1.cell? ⟨g, i * 5 + j, none⟩ = some v
        rw [World.cell?_of_block (w := w) (a := ⟨g, i * 5 + j, none⟩) (hold1 g hglt)]
        exact hxcell (i * 5 + j) v (by rwa [List.getElem?_drop] at hj)) (by rw [List.size_toArray, hc1l, hdl]; omega) (fun v hv => h1x v (List.mem_of_mem_drop hv))]
    simp only [e4]
  obtain ⟨c2, hc2⟩ : ∃ c2, c2 = xs.take (i * 5) ++ us ++ xs.drop (i * 5) ++ c1.drop ((i + m) * 5 + (xs.drop (i * 5)).length) := ⟨_, rfl⟩
  rw [← hc2] at hcp2
  have hc2l : c2.length = q * 5 := by rw [hc2]; simp only [List.length_append, hxt, hul, hdl, List.length_drop, hc1l]; omega
  have HEND := Lib.hid (show ∃ q' cur2 R, Ending.returned (.slice (some ⟨G, 0, none⟩) (n + m) q) = .returned (.slice (some ⟨w.heap.size, 0, none⟩) (n + m) q') ∧ n + m ≤ q' ∧ q' ≤ maxLen ∧ cur2.size = q' * 5 ∧ cur2.toList = xs.take (i * 5) ++ us ++ xs.drop (i * 5) ++ R ∧
        (W1.drew.setRow G c2.toArray).heap[w.heap.size]? = some (.cells cur2 78 (0, 0)) ∧ w.grownBy (W1.drew.setRow G c2.toArray) none from by
    refine ⟨q, c2.toArray, c1.drop ((i + m) * 5 + (xs.drop (i * 5)).length), by rw [hG], hqg, hqm, by simpa using hc2l, by simpa using hc2, ?_, ?_⟩
    · rw [hG]
      exact setRow_heap W1.drew G _ _ _ _ hg1
    · refine ⟨?_, ?_, ?_, ?_, fun b hb _ => ?_⟩
      · rw [setRow_os, hW1, hW0]; rfl
      · rw [setRow_tape, hW1, hW0]; rfl
      · rw [setRow_output, hW1, hW0]; rfl
      · rw [setRow_size]
        show w.heap.size ≤ W1.heap.size
        rw [hW1, setRow_size, hW0]
        simp
      · rw [setRow_other _ _ _ _ (by omega)]
        exact hold1 b (by omega))
  have hw1 : IntKind.i64.wrap ((i : Int) + (m : Int)) = (i : Int) + (m : Int) := by rw [IntKind.wrap_i64]; omega
  have hb1 : (0 : Int) ≤ (i : Int) + (m : Int) := by omega
  have hin : i ≤ n := by omega
  have htn : ((i : Int) + (m : Int)).toNat = i + m := by omega
  have hb2 : ¬ (q = i + m) := by omega
  have hb3 : (i : Int) ≤ (n : Int) + (m : Int) := by omega
  have hb4 : ¬ (c = i) := by omega
  have hb5 : ¬ (q = i) := by omega
  have HC1 := Lib.hid hcp1
  have HR := Lib.hid hrun0
  clear hcp1 hrun0 hW1 hg1 hold1 hW0 hg0 hold0 hc1 hc1l e3 e4 hc2 hc2l hxcell hucell hdl hg hvb h1x h1u hul hxl htk hcs hZl hxt hfit e1 e2 hi0 hz0 hzs hzb hG
  go_enter Tryz.func70, Tryz.ntmps70
  go_wp2_with (first
    | (at_builtin; refine Lib.wpList_append_run _ rfl (.tmp 34) (.tmp 39) 73 3 rfl _ _ rfl rfl _ _ (HR.out _) ?_)
    | (refine wpList_copy_runI _ rfl (.tmp 43) (.tmp 44) 73 73 rfl _ _ rfl rfl (HC1.out _) ?_))
  go_region_law (refine step_copy_runI rfl _ _ 73 73 rfl _ _ (by simp [Act.eval, Act.put]) (by simp [Act.eval, Act.put]) (hcp2 _) ?_)
  go_wp2_with fail
  go_ret
  exact HEND.out
end Go.Proofs.YtimbbfneaaglbaaGreat.Heads
