/-
  The law HeadsOrder (stage 13), over contracts of a landed pool. By an AI agent.
-/
import Derived.Test.YtimbbfneaaglbaaGHeadsApart29
import Derived.Test.YtimbbfneaaglbaaGHeadsApart28
import Derived.Test.YtimbbfneaaglbaaGHeadsApart13
import Derived.Test.YtimbbfneaaglbaaGHeadsApart19
namespace Go.Proofs.Ytimbbfneaaglbaa.Heads
open Go.RowKit Go.Proofs.Ytimbbfneaaglbaa.Ints Go.Proofs.Ytimbbfneaaglbaa.Mem Go.Proofs.Ytimbbfneaaglbaa.Trace Go.Proofs.Ytimbbfneaaglbaa.Record Go.Proofs.Ytimbbfneaaglbaa.Log Go.Proofs.Ytimbbfneaaglbaa.Src

/-- A pool of one head. -/
def ordP (t : Tr) (i pk : Nat) : PS := ⟨t, 13, 2, [some i], pk⟩
theorem ord_open (t : Tr) : addP ⟨t, 13, 2, [], 0⟩ 0 = (0, 0, ordP t 0 3) := rfl
theorem ord_head (t : Tr) (i pk : Nat) : headP (ordP t i pk).hs 0 = some i := rfl
theorem ord_cells (t : Tr) (i pk : Nat) : cellsP (ordP t (i + 1) pk).t (ordP t (i + 1) pk).hs = 3 + (t.events.getD i noEv).ids.length := by
  show 3 + idsAt t (i + 1) + 0 = _
  unfold idsAt
  rw [if_neg (by omega), Nat.add_sub_cancel, Nat.add_zero]
theorem ord_next {t : Tr} {i : Nat} (h : i < t.events.length) (pk : Nat) : nextP (ordP t i pk) 0 = (t.events.getD i noEv, 0, ordP t (i + 1) (max pk (cellsP t [some (i + 1)]))) := by
  unfold nextP
  rw [ord_head]
  simp only
  rw [if_pos (show i < (ordP t i pk).t.events.length from h)]
  rfl
theorem ord_end (t : Tr) (pk : Nat) : nextP (ordP t t.events.length pk) 0 = (noEv, 13, ordP t t.events.length pk) := by
  unfold nextP
  rw [ord_head]
  simp only
  rw [if_neg (show ¬ t.events.length < (ordP t t.events.length pk).t.events.length from Nat.lt_irrefl _)]
  rfl
theorem ord_seek {t : Tr} {i a : Nat} (pk : Nat) (h : a ≤ t.events.length) : seekP (ordP t i pk) 0 (a : Int) = (0, ordP t a (max pk (cellsP t [some a]))) := by
  unfold seekP
  rw [ord_head]
  simp only
  rw [if_neg (by omega), if_neg (show ¬ (((ordP t i pk).t.events.length : Int) < (a : Int)) from by show ¬ ((t.events.length : Int) < (a : Int)); omega), Int.toNat_natCast]
  rfl
theorem ord_beyond {t : Tr} {i a : Nat} (pk : Nat) (h : t.events.length < a) : seekP (ordP t i pk) 0 (a : Int) = (13, ordP t i pk) := by
  unfold seekP
  rw [ord_head]
  simp only
  rw [if_neg (by omega), if_pos (show ((ordP t i pk).t.events.length : Int) < (a : Int) from by show (t.events.length : Int) < (a : Int); omega)]
  rfl
theorem ord_ok {t : Tr} {i pk : Nat} (h : i ≤ t.events.length) (hp : cellsP t [some i] ≤ pk) (hids : ∀ e ∈ t.events, e.ids.length ≤ 64) : OkP (ordP t i pk) :=
  ⟨(fun j k hjk => by
    have hjk : ([some i] : List (Option Nat))[j]? = some (some k) := hjk
    rcases j with _ | j
    · injection hjk with e; injection e with e; subst e; exact h
    · cases hjk), (by show ((1 : Nat) : Int) ≤ 2; decide), hp, ⟨by show 13 ≠ 0; decide, by show 13 ≤ 20; decide⟩, hids⟩

set_option maxHeartbeats 16000000 in
set_option maxRecDepth 100000 in
theorem lawHeadsOrder {L : LPool} (C : PoolC L) (start : Int) (A : Option Addr) (n c : Nat) (ns : List Int) (B : Option Addr) (m d : Nat) (sc : List Int) (kk : Nat) (w : World) (h0 : 0 ≤ start ∧ start ≤ 18446744073709551615) (h : Rd .u16 w A n ns) (hc : n ≤ maxLen)
    (hs : Rd .i64 w B m sc) (hm : m * 8 ≤ 140737488351232) (hkk : kk ≤ 255) :
    Calls Try.prog 4 #[.int .u64 start, .slice A n c, .slice B m d, .int .u8 (kk : Nat)] w fun e w' => e = .returned (.bool true) ∧ Below w.heap.size w w' := by
  have q63 : maxLen = 9223372036854775807 := rfl
  have HAW := Lib.hid (fun W => lawAwake C W)
  have hz : ∀ z ∈ ns, 0 ≤ z := fun z hz => (wf_u16 (h.all z hz)).1
  have HM := Lib.hid (lawMake start A n c ns w h0 h hc)
  have hms := (make_small start ns).1
  have hmay := make_may (start := start) ns hz
  obtain ⟨he1, he2, he3⟩ := enc_small (start := start) hz
  obtain ⟨t, ht⟩ : ∃ t, makeM start ns = t := ⟨_, rfl⟩
  rw [ht] at HM hms hmay he1 he2 he3
  have HMS := Lib.hid hms
  have HMAY := Lib.hid hmay
  have HWF := Lib.hid (u8_all he3)
  have HSC := Lib.hid hs
  have HLE := Lib.hid he2
  clear h hs hms he1 he2 he3 ht hz hmay
  go_enter Try.func4, Try.ntmps4
  go_wp2_with fail
  refine HM.out.mono ?_
  rintro e w1 ⟨NA, nn, nc, EA, ne, ec, rfl, htr, hB1⟩
  have hal := (Below.refl _ w1).alloc (Nat.le_refl _) (.cells #[.slice NA nn nc, .slice EA ne ec] 30)
  have hbx := Blk.new w1 #[.slice NA nn nc, .slice EA ne ec] 30 [.slice NA nn nc, .slice EA ne ec] rfl
  obtain ⟨w2, hw2⟩ : ∃ w2, w1.alloc (.cells #[.slice NA nn nc, .slice EA ne ec] 30) = w2 := ⟨_, rfl⟩
  obtain ⟨g1, hg1⟩ : ∃ g1, w1.heap.size = g1 := ⟨_, rfl⟩
  rw [hw2] at hal hbx
  have htr2 := htr.below hal
  have HB2 := Lib.hid (hB1.trans (hal.mono hB1.size))
  have hel := htr.elen
  have hne : ne ≤ 60 := by have := HMS.out; omega
  have hecp := htr.ecap
  have HTM := Lib.hid (tr_times htr)
  have HE := Lib.hid (landEncode NA nn nc EA ne ec t w2 htr2 (by omega))
  rw [hg1] at hbx
  have x0 := hbx.cell 0 rfl
  have x1 := hbx.cell 1 rfl
  have HBX := Lib.hid hbx
  have HTR := Lib.hid htr2
  have HEL := Lib.hid hel
  clear htr htr2 hB1 hal hbx hel
  go_wp2_with fail
  clear hw2 hg1
  refine HE.out.mono ?_
  intro e w3 hmade
  obtain ⟨A3, c3, rfl, hr3, hc3, hm3, -, -, hB3⟩ := made_slice hmade HWF.out
  have HB3 := Lib.hid (HB2.out.trans (hB3.mono HB2.out.size))
  have HBX3 := Lib.hid (HBX.out.later hB3)
  have HTR3 := Lib.hid (HTR.out.below hB3)
  have hen := enc_recs HMAY.out HTM.out
  have hN := C.new A3 _ c3 (encL t) B m d sc (-1) 2 w3 hc3 hm3 hr3 (HSC.out.below HB3.out) (by have := HLE.out; omega) hm ⟨by decide, by decide⟩ ⟨by decide, by decide⟩
  rw [show faultP (encL t).length (-1) = (encL t).length from rfl, show newE (encL t) (encL t).length 2 = 0 by unfold newE; rw [if_neg (by decide)]; exact hen.2, show startP (encL t) (encL t).length 2 = ⟨t, 13, 2, [], 0⟩ by unfold startP; rw [hen.1]] at hN
  have HN := Lib.hid hN
  obtain ⟨zs, hzs⟩ : ∃ zs, encL t = zs := ⟨_, rfl⟩
  rw [hzs] at HN ⊢
  clear hmade hr3 hB3 hen hN HE x0 x1
  go_wp2_with fail
  refine HN.out.mono ?_
  rintro e w4 ⟨hB4, (⟨hf, -⟩ | ⟨-, gp, D, N, rfl, hL, hD, hNN⟩)⟩
  · exact absurd rfl hf
  have HO4 := Lib.hid (OneP.made hB4 hL hD hNN)
  have HB4 := Lib.hid hB4
  have hids : ∀ e ∈ t.events, e.ids.length ≤ 64 := fun e he => by
    have := (recs_good (b := zs) (f := zs.length) (Nat.le_refl _) (by rw [← hzs]; exact (enc_recs HMAY.out HTM.out).2)).2.2.2.2 e (by rw [← hzs, (enc_recs HMAY.out HTM.out).1]; exact he)
    exact this
  have HIDS := Lib.hid hids
  have k0 : OkP ⟨t, 13, 2, [], 0⟩ := ⟨(fun i k e => by cases e), (by show ((0 : Nat) : Int) ≤ 2; decide), Nat.le_refl _, ⟨by show 13 ≠ 0; decide, by show 13 ≤ 20; decide⟩, hids⟩
  have f0 := HO4.out.land C (fun D N hL hN => C.open_ zs _ w4 gp D N _ hL k0 (Nat.zero_le _) (by omega))
  rw [ord_open] at f0
  have F0 := Lib.hid f0
  have HL1 := Lib.hid (fun i pk => show (ordP t i pk).hs.length ≤ 100000 from (by show 1 ≤ 100000; decide))
  clear hL hD hNN hB4 f0 k0 hids HN hzs
  go_wp2_with fail
  refine F0.out.mono ?_
  rintro e w5 ⟨rfl, hs5⟩
  have HO5 := Lib.hid hs5.1
  have HB5 := Lib.hid (HB4.out.trans hs5.2.2)
  have y1 := (HBX3.out.below HB5.out HBX3.out.1).cell 1 rfl
  clear hs5 F0
  go_wp2_with fail
  go_loopw [52] (fun iv wr => ∃ (i Bk pk : Nat), i ≤ ne ∧ iv = .int .i64 (i : Nat) ∧ OneP L zs zs.length (fun _ => False) wr gp w3.heap.size Bk (ordP t i pk) ∧ cellsP t [some i] ≤ pk ∧ Bk ≤ 8796093022208 * (i + 1) ∧ Below w3.heap.size w3 wr) (fun iv _ => ne - (intOf iv).toNat)
  case atStart => exact ⟨0, 2199023255552, 3, Nat.zero_le _, rfl, HO5.out, Nat.le_refl 3, by omega, HB5.out⟩
  case round =>
    obtain ⟨i, Bk, pk, hi, rfl, hop, hpk, hBk, hBr⟩ := hrel
    have HOr := Lib.hid hop
    have HBr := Lib.hid hBr
    clear hop hBr y1
    by_cases hin : i < ne
    rotate_left
    · obtain rfl : i = ne := by omega
      have hin' : ¬ ((i : Int) < (i : Int)) := by omega
      have hil : i ≤ t.events.length := by have := HEL.out; omega
      have hok := ord_ok (t := t) hil hpk HIDS.out
      have hend : nextP (ordP t i pk) 0 = (noEv, 13, ordP t i pk) := by
        have h := ord_end t pk
        rw [HEL.out] at h
        exact h
      have hc := HOr.out.nextL C hok (HL1.out i pk) (by omega) 0 ⟨by decide, by decide⟩
      rw [hend] at hc
      have HC := Lib.hid hc
      clear hc
      go_wp2_with fail
      refine HC.out.mono ?_
      rintro e w6 ⟨K6, c6, rfl, -, ho, -, hb⟩
      have hal := (Below.refl _ w6).alloc (Nat.le_refl _) (.cells #[.int .u64 noEv.time, .slice K6 noEv.ids.length c6] 46)
      have HO6 := Lib.hid ((ho.less (Y := fun _ => False) (fun q hq => False.elim hq) (Nat.le_refl _)).below C hal)
      have HB6 := Lib.hid ((HBr.out.trans hb).trans (hal.mono ho.base))
      obtain ⟨w6b, hw6⟩ : ∃ w6b, w6.alloc (.cells #[.int .u64 noEv.time, .slice K6 noEv.ids.length c6] 46) = w6b := ⟨_, rfl⟩
      obtain ⟨gg6, hgg6⟩ : ∃ gg, w6.heap.size = gg := ⟨_, rfl⟩
      rw [hw6] at HO6 HB6
      clear ho hb hal HC
      have hc := HO6.out.nextL C hok (HL1.out i pk) (by omega) 0 ⟨by decide, by decide⟩
      rw [hend] at hc
      have HC := Lib.hid hc
      clear hc
      go_wp2_with fail
      refine HC.out.mono ?_
      rintro e w7 ⟨K7, c7, rfl, -, ho, -, hb⟩
      have hal := (Below.refl _ w7).alloc (Nat.le_refl _) (.cells #[.int .u64 noEv.time, .slice K7 noEv.ids.length c7] 46)
      have HO7 := Lib.hid ((ho.less (Y := fun _ => False) (fun q hq => False.elim hq) (Nat.le_refl _)).below C hal)
      have HB7 := Lib.hid ((HB6.out.trans hb).trans (hal.mono ho.base))
      obtain ⟨w7b, hw7⟩ : ∃ w7b, w7.alloc (.cells #[.int .u64 noEv.time, .slice K7 noEv.ids.length c7] 46) = w7b := ⟨_, rfl⟩
      obtain ⟨gg7, hgg7⟩ : ∃ gg, w7.heap.size = gg := ⟨_, rfl⟩
      rw [hw7] at HO7 HB7
      clear ho hb hal HC
      obtain ⟨a, ha1, ha2⟩ : ∃ a : Nat, (kk : Int).tmod ((i : Int) + 2) = (a : Int) ∧ a < i + 2 := ⟨kk % (i + 2), by rw [Int.tmod_eq_emod_of_nonneg (by omega), show (i : Int) + 2 = ((i + 2 : Nat) : Int) by omega, ← Int.natCast_emod], Nat.mod_lt _ (by omega)⟩
      have hd0 : ¬ ((i : Int) + 2 = 0) := by omega
      have y1 := (HBX3.out.below HB7.out HBX3.out.1).cell 1 rfl
      by_cases hai : a ≤ i
      · have hgt : ¬ ((a : Int) > (i : Int)) := by omega
        have hcs := HO7.out.land C (fun D N hL hN => C.seek zs _ w7b gp D N _ 0 (a : Int) hL hok (HL1.out i pk) (by omega) ⟨by decide, by decide⟩ ⟨by omega, by omega⟩)
        rw [ord_seek pk (by omega)] at hcs
        have hok2 := ord_ok (t := t) (i := a) (pk := max pk (cellsP t [some a])) (by omega) (Nat.le_max_right _ _) HIDS.out
        have HCS := Lib.hid hcs
        clear hcs
        go_wp2_with fail
        refine HCS.out.mono ?_
        rintro e w8 ⟨rfl, hs8⟩
        have hci := hs8.1.land C (fun D N hL hN => C.index zs _ w8 gp D N _ 0 hL hok2 (HL1.out _ _) (by omega) ⟨by decide, by decide⟩)
        rw [ord_head] at hci
        have HCI := Lib.hid (show Calls Try.prog 17 #[.pointer (some ⟨gp, 0, none⟩), .int .i64 0] w8 fun e w' => e = .returned (.tuple #[.int .i64 (a : Nat), .bool true]) ∧ StepO L zs zs.length (fun _ => False) w8 w' gp w3.heap.size _ _ from hci)
        have HB8 := Lib.hid (HB7.out.trans hs8.2.2)
        clear hs8 hci
        go_wp2_with fail
        refine HCI.out.mono ?_
        rintro e w9 ⟨rfl, hs9⟩
        have HB9 := Lib.hid (HB8.out.trans hs9.2.2)
        have y1 := (HBX3.out.below HB9.out HBX3.out.1).cell 1 rfl
        clear hs9
        go_wp2_with fail
        refine (HAW.out w9).mono ?_
        rintro e w10 ⟨rfl, hB10⟩
        have HBZ := Lib.hid (HB3.out.trans ((HB9.out.mono (Nat.le_refl _)).trans (hB10.mono HB9.out.size) |>.mono HB3.out.size))
        clear hB10
        go_wp2_with fail
        go_ret
        exact ⟨rfl, HBZ.out⟩
      · have hgt : (a : Int) > (i : Int) := by omega
        have hcs := HO7.out.land C (fun D N hL hN => C.seek zs _ w7b gp D N _ 0 (a : Int) hL hok (HL1.out i pk) (by omega) ⟨by decide, by decide⟩ ⟨by omega, by omega⟩)
        rw [ord_beyond pk (by have := HEL.out; omega)] at hcs
        have HCS := Lib.hid hcs
        clear hcs
        go_wp2_with fail
        refine HCS.out.mono ?_
        rintro e w8 ⟨rfl, hs8⟩
        have hci := hs8.1.land C (fun D N hL hN => C.index zs _ w8 gp D N _ 0 hL hok (HL1.out _ _) (by omega) ⟨by decide, by decide⟩)
        rw [ord_head] at hci
        have HCI := Lib.hid (show Calls Try.prog 17 #[.pointer (some ⟨gp, 0, none⟩), .int .i64 0] w8 fun e w' => e = .returned (.tuple #[.int .i64 (i : Nat), .bool true]) ∧ StepO L zs zs.length (fun _ => False) w8 w' gp w3.heap.size _ _ from hci)
        have HB8 := Lib.hid (HB7.out.trans hs8.2.2)
        clear hs8 hci
        go_wp2_with fail
        refine HCI.out.mono ?_
        rintro e w9 ⟨rfl, hs9⟩
        have HB9 := Lib.hid (HB8.out.trans hs9.2.2)
        have y1 := (HBX3.out.below HB9.out HBX3.out.1).cell 1 rfl
        clear hs9
        go_wp2_with fail
        refine (HAW.out w9).mono ?_
        rintro e w10 ⟨rfl, hB10⟩
        have HBZ := Lib.hid (HB3.out.trans ((HB9.out.mono (Nat.le_refl _)).trans (hB10.mono HB9.out.size) |>.mono HB3.out.size))
        clear hB10
        go_wp2_with fail
        go_ret
        exact ⟨rfl, HBZ.out⟩
    have hin' : (i : Int) < (ne : Int) := by omega
    have hil : i < t.events.length := by have := HEL.out; omega
    have hok := ord_ok (t := t) (Nat.le_of_lt hil) hpk HIDS.out
    obtain ⟨bb, off, K, ck, rfl, v0, v1, hev⟩ := HTR3.out.evs.kids (k := i) hil
    have HNXT := Lib.hid (ord_next hil pk)
    have HCL := Lib.hid (fun pk => ord_cells t i pk)
    have hpk2 : cellsP t [some (i + 1)] ≤ max pk (cellsP t [some (i + 1)]) := Nat.le_max_right _ _
    have hok2 := ord_ok (t := t) (i := i + 1) hil hpk2 HIDS.out
    obtain ⟨x, hx⟩ : ∃ x, t.events.getD i noEv = x := ⟨_, rfl⟩
    rw [hx] at v0 v1 hev HNXT HCL
    have hil3 : x.ids.length ≤ 64 := by rw [← hx, List.getD_eq_getElem?_getD, List.getElem?_eq_getElem hil]; exact HIDS.out _ (List.getElem_mem hil)
    have v0 := below_cell HBr.out v0
    have v1 := below_cell HBr.out v1
    have hal := (Below.refl _ wr).alloc (Nat.le_refl _) (.cells #[.int .u64 x.time, .slice K x.ids.length ck] 46)
    have hb6 := HOr.out.box C (.cells #[.int .u64 x.time, .slice K x.ids.length ck] 46)
    have hx6 := Blk.new wr #[.int .u64 x.time, .slice K x.ids.length ck] 46 [.int .u64 x.time, .slice K x.ids.length ck] rfl
    have HB6 := Lib.hid (HBr.out.trans (hal.mono HOr.out.base))
    obtain ⟨w6, hw6⟩ : ∃ w6, wr.alloc (.cells #[.int .u64 x.time, .slice K x.ids.length ck] 46) = w6 := ⟨_, rfl⟩
    obtain ⟨g6, hg6⟩ : ∃ g6, wr.heap.size = g6 := ⟨_, rfl⟩
    rw [hw6] at hb6 hx6 HB6
    rw [hg6] at hb6 hx6
    have hc6 := hb6.land C (fun D N hL hN => C.index zs _ w6 gp D N (ordP t i pk) 0 hL hok (HL1.out i pk) (by omega) ⟨by decide, by decide⟩)
    rw [ord_head] at hc6
    have HC6 := Lib.hid (show Calls Try.prog 17 #[.pointer (some ⟨gp, 0, none⟩), .int .i64 0] w6 fun e w' => e = .returned (.tuple #[.int .i64 (i : Nat), .bool true]) ∧ StepO L zs zs.length (fun q => False ∨ q = g6) w6 w' gp w3.heap.size _ (ordP t i pk) from hc6)
    have HX6 := Lib.hid hx6
    have HEV := Lib.hid hev
    clear hal hb6 hx6 hc6 hx hev
    go_wp2_with fail
    refine HC6.out.mono ?_
    rintro e w7 ⟨rfl, hs7⟩
    have HX7 := Lib.hid (HX6.out.same hs7.2.2.size (hs7.2.1 _ (.inr rfl)))
    have HB7 := Lib.hid (HB6.out.trans hs7.2.2)
    have hc7 := hs7.1.nextL C hok (HL1.out i pk) (by omega) 0 ⟨by decide, by decide⟩
    rw [HNXT.out] at hc7
    have HC7 := Lib.hid hc7
    clear hs7 hc7 hw6 hg6 v0 v1
    go_wp2_with fail
    refine HC7.out.mono ?_
    rintro e w8 ⟨K8, c8, rfl, hev8, ho8, hk8, hb8⟩
    have hx8 := HX7.out.same hb8.size (hk8 _ (.inr rfl))
    have hal8 := (Below.refl _ w8).alloc (Nat.le_refl _) (.cells #[.int .u64 x.time, .slice K8 x.ids.length c8] 46)
    have ho9 := ho8.box C (.cells #[.int .u64 x.time, .slice K8 x.ids.length c8] 46)
    have he9 := Blk.new w8 #[.int .u64 x.time, .slice K8 x.ids.length c8] 46 [.int .u64 x.time, .slice K8 x.ids.length c8] rfl
    have hx9 := hx8.later hal8
    have hev9 := hev8.below hal8
    have hb9 := (HB7.out.trans hb8).trans (hal8.mono ho8.base)
    obtain ⟨w9, hw9⟩ : ∃ w9, w8.alloc (.cells #[.int .u64 x.time, .slice K8 x.ids.length c8] 46) = w9 := ⟨_, rfl⟩
    obtain ⟨g8, hg8⟩ : ∃ g8, w8.heap.size = g8 := ⟨_, rfl⟩
    rw [hw9] at ho9 he9 hx9 hev9 hb9
    rw [hg8] at ho9 he9
    have hdr := (Below.refl w9.heap.size w9).drew
    have hov := ho9.below C hdr
    have hevv := hev9.below hdr
    have hbv := hb9.trans (hdr.mono ho9.base)
    have hxv := hx9.later hdr
    have hev2 := HEV.out.below hbv
    have e0 := he9.cell 0 rfl
    have e1 := he9.cell 1 rfl
    have a0 := hx9.cell 0 rfl
    have a1 := hx9.cell 1 rfl
    have hev9b := he9.later hdr
    obtain ⟨V, hV⟩ : ∃ V, w9.drew = V := ⟨_, rfl⟩
    rw [hV] at hov hevv hbv hxv hev2 hev9b
    have FS := refSameEvent x x K8 K c8 ck V hevv hev2
    rw [show decide (x = x) = true from decide_eq_true rfl] at FS
    have HFS := Lib.hid FS
    have HOV := Lib.hid hov
    have HBV := Lib.hid hbv
    have HXV := Lib.hid hxv
    have HEV9 := Lib.hid hev9b
    have HOK2 := Lib.hid hok2
    have hs3 : IntKind.i64.wrap (3 + (x.ids.length : Int)) = 3 + (x.ids.length : Int) := IntWalk.i64_in _ (by omega)
    clear ho8 hk8 hb8 hx8 hal8 ho9 he9 hx9 hev9 hb9 hdr hov hevv hbv hxv hev2 hev9b FS hev8
    go_wp2_with fail
    refine wp_region_held_drew (S := fun W => (W.cell? ⟨g8, 0, none⟩ = some (.int .u64 x.time) ∧ W.cell? ⟨g8, 1, none⟩ = some (.slice K8 x.ids.length c8)) ∧ W.cell? ⟨g6, 0, none⟩ = some (.int .u64 x.time) ∧ W.cell? ⟨g6, 1, none⟩ = some (.slice K x.ids.length ck)) (by kernel_rfl) (by exact ⟨⟨e0, e1⟩, a0, a1⟩) (fun hHeld => ?_)
    rw [hV] at hHeld ⊢
    clear hV e0 e1 a0 a1
    refine wpAnyH_take (i := 0) (oi := ?tko1) (v := ?tkv1) ?tkh1 (by kernel_rfl) (by kernel_rfl) (by kernel_rfl) ?tkq1 ?tky1 hHeld ?tkr1
    case tkh1 => (simp only [List.getElem?_toArray, List.getElem?_cons_zero]; rfl)
    case tkq1 => exact fun _ _ _ h => h
    case tky1 => exact Or.inl ⟨by rfl, by intro wSw hSw; (try dsimp only at hSw); go_simp; try with_reducible rfl⟩
    try simp only [Act.put, List.setIfInBounds_toArray, List.set_cons_zero, List.set_cons_succ]
    refine wpAnyH_take (i := 1) (oi := ?tko2) (v := ?tkv2) ?tkh2 (by kernel_rfl) (by kernel_rfl) (by kernel_rfl) ?tkq2 ?tky2 hHeld ?tkr2
    case tkh2 => (simp only [List.getElem?_toArray, List.getElem?_cons_succ, List.getElem?_cons_zero]; rfl)
    case tkq2 => exact fun _ _ _ h => h
    case tky2 => exact Or.inl ⟨by rfl, by intro wSw hSw; (try dsimp only at hSw); go_simp; try with_reducible rfl⟩
    try simp only [Act.put, List.setIfInBounds_toArray, List.set_cons_zero, List.set_cons_succ]
    refine wpAnyH_take (i := 2) (oi := ?tko3) (v := ?tkv3) ?tkh3 (by kernel_rfl) (by kernel_rfl) (by kernel_rfl) ?tkq3 ?tky3 hHeld ?tkr3
    case tkh3 => (simp only [List.getElem?_toArray, List.getElem?_cons_succ, List.getElem?_cons_zero]; rfl)
    case tkq3 => exact fun _ _ _ h => h
    case tky3 => exact Or.inl ⟨by rfl, by intro wSw hSw; (try dsimp only at hSw); go_simp; try with_reducible rfl⟩
    try simp only [Act.put, List.setIfInBounds_toArray, List.set_cons_zero, List.set_cons_succ]
    refine wpAnyH_take (i := 3) (oi := ?tko4) (v := ?tkv4) ?tkh4 (by kernel_rfl) (by kernel_rfl) (by kernel_rfl) ?tkq4 ?tky4 hHeld ?tkr4
    case tkh4 => (simp only [List.getElem?_toArray, List.getElem?_cons_succ, List.getElem?_cons_zero]; rfl)
    case tkq4 => exact fun _ _ _ h => h
    case tky4 => exact Or.inl ⟨by rfl, by intro wSw hSw; (try dsimp only at hSw); go_simp; try with_reducible rfl⟩
    try simp only [Act.put, List.setIfInBounds_toArray, List.set_cons_zero, List.set_cons_succ]
    refine wpAnyH_take (i := 4) (oi := ?tko5) (v := ?tkv5) ?tkh5 (by kernel_rfl) (by kernel_rfl) (by kernel_rfl) ?tkq5 ?tky5 hHeld ?tkr5
    case tkh5 => (simp only [List.getElem?_toArray, List.getElem?_cons_succ, List.getElem?_cons_zero]; rfl)
    case tkq5 => exact fun _ _ _ h => h
    case tky5 => exact Or.inl ⟨by rfl, by intro wSw hSw; (try dsimp only at hSw); go_simp; try with_reducible rfl⟩
    try simp only [Act.put, List.setIfInBounds_toArray, List.set_cons_zero, List.set_cons_succ]
    refine wpAnyH_ready (rs := [5]) (by kernel_rfl) (by simp) ?_
    refine AllReadyH.cons (o := ?tko6) ?tkh6 (fun Kt6 hKt6 => ?_) AllReadyH.nil
    case tkh6 => (simp only [List.getElem?_toArray, List.getElem?_cons_succ, List.getElem?_cons_zero]; rfl)
    go_simp
    (refine HFS.out.mono ?_; rintro e w10 ⟨rfl, hB10⟩; have HO10 := Lib.hid (HOV.out.below C hB10); have HB10 := Lib.hid (HBV.out.trans (hB10.mono HOV.out.base)); have hx10 := HXV.out.later hB10; have he10 := HEV9.out.later hB10; clear hB10)
    refine hKt6.out _ _ ?_ (fun hHt6 => ?_)
    · (exact ⟨⟨he10.cell 0 rfl, he10.cell 1 rfl⟩, hx10.cell 0 rfl, hx10.cell 1 rfl⟩)
    clear hKt6 Kt6 hHeld
    have hHeld := hHt6
    clear hHt6
    try simp only [Act.put, List.setIfInBounds_toArray, List.set_cons_zero, List.set_cons_succ]
    refine wpAnyH_take (i := 6) (oi := ?tko7) (v := ?tkv7) ?tkh7 (by kernel_rfl) (by kernel_rfl) (by kernel_rfl) ?tkq7 ?tky7 hHeld ?tkr7
    case tkh7 => (simp only [List.getElem?_toArray, List.getElem?_cons_succ, List.getElem?_cons_zero]; rfl)
    case tkq7 => exact fun _ _ _ h => h
    case tky7 => exact Or.inl ⟨by rfl, by intro wSw hSw; (try dsimp only at hSw); go_simp; try with_reducible rfl⟩
    try simp only [Act.put, List.setIfInBounds_toArray, List.set_cons_zero, List.set_cons_succ]
    refine wpAnyH_take (i := 7) (oi := ?tko8) (v := ?tkv8) ?tkh8 (by kernel_rfl) (by kernel_rfl) (by kernel_rfl) ?tkq8 ?tky8 hHeld ?tkr8
    case tkh8 => (simp only [List.getElem?_toArray, List.getElem?_cons_succ, List.getElem?_cons_zero]; rfl)
    case tkq8 => exact fun _ _ _ h => h
    case tky8 => exact Or.inl ⟨by rfl, by intro wSw hSw; (try dsimp only at hSw); go_simp; try with_reducible rfl⟩
    try simp only [Act.put, List.setIfInBounds_toArray, List.set_cons_zero, List.set_cons_succ]
    refine wpAnyH_take (i := 8) (oi := ?tko9) (v := ?tkv9) ?tkh9 (by kernel_rfl) (by kernel_rfl) (by kernel_rfl) ?tkq9 ?tky9 hHeld ?tkr9
    case tkh9 => (simp only [List.getElem?_toArray, List.getElem?_cons_succ, List.getElem?_cons_zero]; rfl)
    case tkq9 => exact fun _ _ _ h => h
    case tky9 => exact Or.inl ⟨by rfl, by intro wSw hSw; (try dsimp only at hSw); go_simp; try with_reducible rfl⟩
    try simp only [Act.put, List.setIfInBounds_toArray, List.set_cons_zero, List.set_cons_succ]
    refine wpAnyH_take (i := 9) (oi := ?tko10) (v := ?tkv10) ?tkh10 (by kernel_rfl) (by kernel_rfl) (by kernel_rfl) ?tkq10 ?tky10 hHeld ?tkr10
    case tkh10 => (simp only [List.getElem?_toArray, List.getElem?_cons_succ, List.getElem?_cons_zero]; rfl)
    case tkq10 => exact fun _ _ _ h => h
    case tky10 => exact Or.inl ⟨by rfl, by intro wSw hSw; (try dsimp only at hSw); go_simp; try with_reducible rfl⟩
    try simp only [Act.put, List.setIfInBounds_toArray, List.set_cons_zero, List.set_cons_succ]
    refine wpAnyH_take (i := 11) (oi := ?tko11) (v := ?tkv11) ?tkh11 (by kernel_rfl) (by kernel_rfl) (by kernel_rfl) ?tkq11 ?tky11 hHeld ?tkr11
    case tkh11 => (simp only [List.getElem?_toArray, List.getElem?_cons_succ, List.getElem?_cons_zero]; rfl)
    case tkq11 => exact fun _ _ _ h => h
    case tky11 => exact Or.inl ⟨by rfl, by intro wSw hSw; (try dsimp only at hSw); go_simp; try with_reducible rfl⟩
    try simp only [Act.put, List.setIfInBounds_toArray, List.set_cons_zero, List.set_cons_succ]
    refine wpAnyH_take (i := 12) (oi := ?tko12) (v := ?tkv12) ?tkh12 (by kernel_rfl) (by kernel_rfl) (by kernel_rfl) ?tkq12 ?tky12 hHeld ?tkr12
    case tkh12 => (simp only [List.getElem?_toArray, List.getElem?_cons_succ, List.getElem?_cons_zero]; rfl)
    case tkq12 => exact fun _ _ _ h => h
    case tky12 => exact Or.inl ⟨by rfl, by intro wSw hSw; (try dsimp only at hSw); go_simp; try with_reducible rfl⟩
    try simp only [Act.put, List.setIfInBounds_toArray, List.set_cons_zero, List.set_cons_succ]
    refine wpAnyH_take (i := 13) (oi := ?tko13) (v := ?tkv13) ?tkh13 (by kernel_rfl) (by kernel_rfl) (by kernel_rfl) ?tkq13 ?tky13 hHeld ?tkr13
    case tkh13 => (simp only [List.getElem?_toArray, List.getElem?_cons_succ, List.getElem?_cons_zero]; rfl)
    case tkq13 => exact fun _ _ _ h => h
    case tky13 => exact Or.inl ⟨by rfl, by intro wSw hSw; (try dsimp only at hSw); go_simp; try with_reducible rfl⟩
    try simp only [Act.put, List.setIfInBounds_toArray, List.set_cons_zero, List.set_cons_succ]
    refine wpAnyH_take (i := 14) (oi := ?tko14) (v := ?tkv14) ?tkh14 (by kernel_rfl) (by kernel_rfl) (by kernel_rfl) ?tkq14 ?tky14 hHeld ?tkr14
    case tkh14 => (simp only [List.getElem?_toArray, List.getElem?_cons_succ, List.getElem?_cons_zero]; rfl)
    case tkq14 => exact fun _ _ _ h => h
    case tky14 => exact Or.inl ⟨by rfl, by intro wSw hSw; (try dsimp only at hSw); go_simp; try with_reducible rfl⟩
    try simp only [Act.put, List.setIfInBounds_toArray, List.set_cons_zero, List.set_cons_succ]
    have hc10 := HO10.out.land C (fun D N hL hN => C.cells zs _ w10 gp D N _ hL HOK2.out (HL1.out _ _) (by omega))
    rw [HCL.out] at hc10
    have HC10 := Lib.hid hc10
    clear hc10
    refine wpAnyH_ready (rs := [10]) (by kernel_rfl) (by simp) ?_
    refine AllReadyH.cons (o := ?tko15) ?tkh15 (fun Kt15 hKt15 => ?_) AllReadyH.nil
    case tkh15 => (simp only [List.getElem?_toArray, List.getElem?_cons_succ, List.getElem?_cons_zero]; rfl)
    go_simp
    (refine HC10.out.mono ?_; rintro e w11 ⟨rfl, hs11⟩; have hx11 := hx10.same hs11.2.2.size (hs11.2.1 _ (.inl (.inl (.inr rfl)))); have he11 := he10.same hs11.2.2.size (hs11.2.1 _ (.inr rfl)); have HO11 := Lib.hid (hs11.1.less (Y := fun _ => False) (fun q hq => False.elim hq) (Nat.le_refl _)); have HB11 := Lib.hid (HB10.out.trans hs11.2.2); clear hs11)
    refine hKt15.out _ _ ?_ (fun hHt15 => ?_)
    · (exact ⟨⟨he11.cell 0 rfl, he11.cell 1 rfl⟩, hx11.cell 0 rfl, hx11.cell 1 rfl⟩)
    clear hKt15 Kt15 hHeld
    have hHeld := hHt15
    clear hHt15
    try simp only [Act.put, List.setIfInBounds_toArray, List.set_cons_zero, List.set_cons_succ]
    refine wpAnyH_take (i := 15) (oi := ?tko16) (v := ?tkv16) ?tkh16 (by kernel_rfl) (by kernel_rfl) (by kernel_rfl) ?tkq16 ?tky16 hHeld ?tkr16
    case tkh16 => (simp only [List.getElem?_toArray, List.getElem?_cons_succ, List.getElem?_cons_zero]; rfl)
    case tkq16 => exact fun _ _ _ h => h
    case tky16 => exact Or.inl ⟨by rfl, by intro wSw hSw; (try dsimp only at hSw); go_simp; try with_reducible rfl⟩
    try simp only [Act.put, List.setIfInBounds_toArray, List.set_cons_zero, List.set_cons_succ]
    refine wpAnyH_take (i := 16) (oi := ?tko17) (v := ?tkv17) ?tkh17 (by kernel_rfl) (by kernel_rfl) (by kernel_rfl) ?tkq17 ?tky17 hHeld ?tkr17
    case tkh17 => (simp only [List.getElem?_toArray, List.getElem?_cons_succ, List.getElem?_cons_zero]; rfl)
    case tkq17 => exact fun _ _ _ h => h
    case tky17 => exact Or.inl ⟨by rfl, by intro wSw hSw; (try dsimp only at hSw); go_simp; try with_reducible rfl⟩
    try simp only [Act.put, List.setIfInBounds_toArray, List.set_cons_zero, List.set_cons_succ]
    refine wpAnyH_done (by kernel_rfl) ?_ _
    clear hHeld hx10 he10 hx11 he11
    go_wp2_with fail
    go_roundw
    case rel => exact ⟨i + 1, _, _, by omega, by go_num, HO11.out, hpk2, by omega, HB11.out⟩
    case measure => simp [intOf]; omega
end Go.Proofs.Ytimbbfneaaglbaa.Heads
