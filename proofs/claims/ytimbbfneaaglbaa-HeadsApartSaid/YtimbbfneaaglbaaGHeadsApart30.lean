/-
  The law HeadsApart (stage 13), over contracts of a landed pool. By an AI agent.
-/
import Derived.Test.YtimbbfneaaglbaaGHeadsApart20
import Derived.Test.YtimbbfneaaglbaaGHeadsApart29
import Derived.Test.YtimbbfneaaglbaaGHeadsApart28
namespace Go.Proofs.Ytimbbfneaaglbaa.Heads
open Go.RowKit Go.Proofs.Ytimbbfneaaglbaa.Ints Go.Proofs.Ytimbbfneaaglbaa.Mem Go.Proofs.Ytimbbfneaaglbaa.Trace Go.Proofs.Ytimbbfneaaglbaa.Record Go.Proofs.Ytimbbfneaaglbaa.Log Go.Proofs.Ytimbbfneaaglbaa.Src

theorem head_nat {hs : List (Option Nat)} {i : Nat} : headP hs (i : Int) = hs.getD i none := by unfold headP; rw [if_neg (by omega), Int.toNat_natCast]
theorem head_get {hs : List (Option Nat)} {i k : Nat} (h : hs[i]? = some (some k)) : headP hs (i : Int) = some k := by rw [head_nat, List.getD_eq_getElem?_getD, h]; rfl
/-- What is done with others leaves a head where it was. -/
theorem other_stays {s : PS} {i k : Nat} (h : s.hs[i]? = some (some k)) (r : Nat) {id : Int} (hid : id ≠ (i : Int)) (q : Int) : (didP s r id q).hs[i]? = some (some k) ∧ (didP s r id q).t = s.t ∧ (didP s r id q).er = s.er ∧ (didP s r id q).size = s.size := by
  have hadd : ∀ m, (addP s m).2.2.hs[i]? = some (some k) ∧ (addP s m).2.2.t = s.t ∧ (addP s m).2.2.er = s.er ∧ (addP s m).2.2.size = s.size := fun m => by
    unfold addP
    split
    · exact ⟨h, rfl, rfl, rfl⟩
    · refine ⟨?_, rfl, rfl, rfl⟩
      show (putP s.hs (freeP s.hs) m)[i]? = _
      rw [put_at]
      split
      · rename_i e
        have hf := free_le s.hs
        rcases Nat.lt_or_ge (freeP s.hs) s.hs.length with hlt | hge
        · have := free_at hlt
          rw [← e, h] at this
          cases this
        · have := (List.getElem?_eq_some_iff.1 h).1
          omega
      · exact h
  have hset : ∀ {m : Nat}, headP s.hs id = some m → ∀ o, (s.hs.set id.toNat o)[i]? = some (some k) := fun hm o => by
    obtain ⟨h0, -, -⟩ := head_some hm
    rw [List.getElem?_set_ne (by omega)]
    exact h
  unfold didP
  split
  · exact hadd 0
  · unfold cloneP
    split
    · exact ⟨h, rfl, rfl, rfl⟩
    · exact hadd _
  · unfold nextP
    split
    · exact ⟨h, rfl, rfl, rfl⟩
    · rename_i m hm
      split
      · exact ⟨hset hm _, rfl, rfl, rfl⟩
      · exact ⟨h, rfl, rfl, rfl⟩
  · unfold seekP
    split
    · exact ⟨h, rfl, rfl, rfl⟩
    · rename_i m hm
      split
      · exact ⟨h, rfl, rfl, rfl⟩
      · split
        · exact ⟨h, rfl, rfl, rfl⟩
        · exact ⟨hset hm _, rfl, rfl, rfl⟩
  · unfold closeP
    split
    · exact ⟨h, rfl, rfl, rfl⟩
    · rename_i m hm
      exact ⟨hset hm _, rfl, rfl, rfl⟩
/-- The three steps ahead of the loop. -/
theorem apart_open (t : Tr) : addP ⟨t, 13, 9, [], 0⟩ 0 = (0, 0, ⟨t, 13, 9, [some 0], 3⟩) := rfl
theorem apart_seek (t : Tr) {a : Nat} (ha : a ≤ t.events.length) : ∃ s, seekP ⟨t, 13, 9, [some 0], 3⟩ 0 (a : Int) = (0, s) ∧ s.t = t ∧ s.er = 13 ∧ s.size = 9 ∧ s.hs = [some a] ∧ cloneP s 0 = (1, 0, (cloneP s 0).2.2) ∧ (cloneP s 0).2.2.t = t ∧ (cloneP s 0).2.2.er = 13 ∧ (cloneP s 0).2.2.size = 9 ∧ (cloneP s 0).2.2.hs = [some a, some a] := by
  refine ⟨(seekP ⟨t, 13, 9, [some 0], 3⟩ 0 (a : Int)).2, ?_⟩
  have e : seekP ⟨t, 13, 9, [some 0], 3⟩ 0 (a : Int) = (0, meterP { (⟨t, 13, 9, [some 0], 3⟩ : PS) with hs := [some a] }) := by
    unfold seekP
    show (if (a : Int) < 0 then _ else if ((⟨t, 13, 9, [some 0], 3⟩ : PS).t.events.length : Int) < (a : Int) then _ else (0, meterP { (⟨t, 13, 9, [some 0], 3⟩ : PS) with hs := [some (a : Int).toNat] })) = _
    rw [if_neg (by omega), if_neg (by show ¬ ((t.events.length : Int) < (a : Int)); omega), Int.toNat_natCast]
  rw [e]
  exact ⟨rfl, rfl, rfl, rfl, rfl, rfl, rfl, rfl, rfl, rfl⟩

set_option maxHeartbeats 16000000 in
set_option maxRecDepth 100000 in
theorem lawHeadsApart {L : LPool} (C : PoolC L) (start : Int) (A : Option Addr) (n c : Nat) (ns : List Int) (B : Option Addr) (m d : Nat) (sc : List Int) (kk : Nat) (LA : Option Addr) (ln lc : Nat) (rows : List (List Int)) (w : World) (h0 : 0 ≤ start ∧ start ≤ 18446744073709551615) (h : Rd .u16 w A n ns) (hc : n ≤ maxLen)
    (hs : Rd .i64 w B m sc) (hm : m * 8 ≤ 140737488351232) (hkk : kk ≤ 255) (hrl : rows.length = ln) (hra : IntRows [.u8, .i64, .i64] w LA rows) (hlc : ln ≤ lc) (hlm : ln ≤ maxLen) :
    Calls Try.prog 3 #[.int .u64 start, .slice A n c, .slice B m d, .int .u8 (kk : Nat), .slice LA ln lc] w fun e w' => e = .returned (.bool true) ∧ Below w.heap.size w w' := by
  have q63 : maxLen = 9223372036854775807 := rfl
  have HAW := Lib.hid (fun W => lawAwake C W)
  by_cases h300 : 300 < ln
  · have hg : (ln : Int) > 300 := by omega
    clear h hs hra
    go_enter Try.func3, Try.ntmps3
    go_wp2_with fail
    refine (HAW.out w).mono ?_
    rintro e w1 ⟨rfl, hB⟩
    have HB := Lib.hid hB
    clear hB
    go_wp2_with fail
    go_ret
    exact ⟨rfl, HB.out⟩
  have hg : ¬ ((ln : Int) > 300) := by omega
  have hz : ∀ z ∈ ns, 0 ≤ z := fun z hz => (wf_u16 (h.all z hz)).1
  have HM := Lib.hid (lawMake start A n c ns w h0 h hc)
  have hms := (make_small start ns).1
  have hmay := make_may (start := start) ns hz
  obtain ⟨he1, he2, he3⟩ := enc_small (start := start) hz
  obtain ⟨t, ht⟩ : ∃ t, makeM start ns = t := ⟨_, rfl⟩
  rw [ht] at HM hms hmay he1 he2 he3
  have HMS := Lib.hid hms
  have HMAY := Lib.hid hmay
  have HWF := Lib.hid (u8_all he3)
  have HSC := Lib.hid hs
  have HRA := Lib.hid hra
  have HRL := Lib.hid hrl
  have HLE := Lib.hid he2
  clear h hs hra hms he1 he2 he3 ht hz hmay hrl
  go_enter Try.func3, Try.ntmps3
  go_wp2_with fail
  refine HM.out.mono ?_
  rintro e w1 ⟨NA, nn, nc, EA, ne, ec, rfl, htr, hB1⟩
  have hal := (Below.refl _ w1).alloc (Nat.le_refl _) (.cells #[.slice NA nn nc, .slice EA ne ec] 30)
  have hbx := Blk.new w1 #[.slice NA nn nc, .slice EA ne ec] 30 [.slice NA nn nc, .slice EA ne ec] rfl
  obtain ⟨w2, hw2⟩ : ∃ w2, w1.alloc (.cells #[.slice NA nn nc, .slice EA ne ec] 30) = w2 := ⟨_, rfl⟩
  obtain ⟨g1, hg1⟩ : ∃ g1, w1.heap.size = g1 := ⟨_, rfl⟩
  rw [hw2] at hal hbx
  have htr2 := htr.below hal
  have HB2 := Lib.hid (hB1.trans (hal.mono hB1.size))
  have hel := htr.elen
  have hne : ne ≤ 60 := by have := HMS.out; omega
  have hecp := htr.ecap
  have HTM := Lib.hid (tr_times htr)
  have HE := Lib.hid (landEncode NA nn nc EA ne ec t w2 htr2 (by omega))
  rw [hg1] at hbx
  have x0 := hbx.cell 0 rfl
  have x1 := hbx.cell 1 rfl
  have HBX := Lib.hid hbx
  have HTR := Lib.hid htr2
  have HEL := Lib.hid hel
  clear htr htr2 hB1 hal hbx hel
  go_wp2_with fail
  clear hw2 hg1
  refine HE.out.mono ?_
  intro e w3 hmade
  obtain ⟨A3, c3, rfl, hr3, hc3, hm3, -, -, hB3⟩ := made_slice hmade HWF.out
  have HB3 := Lib.hid (HB2.out.trans (hB3.mono HB2.out.size))
  have HBX3 := Lib.hid (HBX.out.later hB3)
  have HTR3 := Lib.hid (HTR.out.below hB3)
  have hen := enc_recs HMAY.out HTM.out
  have hN := C.new A3 _ c3 (encL t) B m d sc (-1) 9 w3 hc3 hm3 hr3 (HSC.out.below HB3.out) (by have := HLE.out; omega) hm ⟨by decide, by decide⟩ ⟨by decide, by decide⟩
  rw [show faultP (encL t).length (-1) = (encL t).length from rfl, show newE (encL t) (encL t).length 9 = 0 by unfold newE; rw [if_neg (by decide)]; exact hen.2, show startP (encL t) (encL t).length 9 = ⟨t, 13, 9, [], 0⟩ by unfold startP; rw [hen.1]] at hN
  have HN := Lib.hid hN
  obtain ⟨zs, hzs⟩ : ∃ zs, encL t = zs := ⟨_, rfl⟩
  rw [hzs] at HN ⊢
  clear hmade hr3 hB3 hen hN HE x0 x1
  go_wp2_with fail
  refine HN.out.mono ?_
  rintro e w4 ⟨hB4, (⟨hf, -⟩ | ⟨-, gp, D, N, rfl, hL, hD, hNN⟩)⟩
  · exact absurd rfl hf
  have HO4 := Lib.hid (OneP.made hB4 hL hD hNN)
  have HB4 := Lib.hid hB4
  obtain ⟨a, ha1, ha2⟩ : ∃ a : Nat, (kk : Int).tmod ((ne : Int) + (1 : Nat)) = (a : Int) ∧ a < ne + 1 := ⟨kk % (ne + 1), by rw [Int.tmod_eq_emod_of_nonneg (by omega), show (ne : Int) + (1 : Nat) = ((ne + 1 : Nat) : Int) by omega, ← Int.natCast_emod], Nat.mod_lt _ (by omega)⟩
  obtain ⟨s2, b0, b1, b2, b3, b4, b5, b6, b7, b8, b9⟩ := apart_seek t (a := a) (by have := HEL.out; omega)
  obtain ⟨s3, hs3⟩ : ∃ s3, (cloneP s2 0).2.2 = s3 := ⟨_, rfl⟩
  rw [hs3] at b5 b6 b7 b8 b9
  obtain ⟨s1, hs1⟩ : ∃ s1 : PS, s1 = ⟨t, 13, 9, [some 0], 3⟩ := ⟨_, rfl⟩
  have hids : ∀ e ∈ t.events, e.ids.length ≤ 64 := fun e he => by
    have := (recs_good (b := zs) (f := zs.length) (Nat.le_refl _) (by rw [← hzs]; exact (enc_recs HMAY.out HTM.out).2)).2.2.2.2 e (by rw [← hzs, (enc_recs HMAY.out HTM.out).1]; exact he)
    exact this
  have k0 : OkP ⟨t, 13, 9, [], 0⟩ := ⟨(fun i k e => by cases e), (by show ((0 : Nat) : Int) ≤ 9; decide), Nat.le_refl _, ⟨by show 13 ≠ 0; decide, by show 13 ≤ 20; decide⟩, hids⟩
  have k1 : OkP s1 := by have h := k0.add (k := 0) (Nat.zero_le _); rw [apart_open] at h; rw [hs1]; exact h
  have k2 : OkP s2 := by have h := k1.seek 0 (a : Int); rw [hs1, b0] at h; exact h
  have k3 : OkP s3 := by have h := k2.clone 0; rw [hs3] at h; exact h
  have f0 := HO4.out.land C (fun D N hL hN => C.open_ zs _ w4 gp D N _ hL k0 (Nat.zero_le _) (by omega))
  rw [apart_open, ← hs1] at f0
  have F0 := Lib.hid f0
  have F1 := Lib.hid (fun W (hb : OneP L zs zs.length (fun _ => False) W gp w3.heap.size 2199023255552 s1) => hb.land C (fun D N hL hN => C.seek zs _ W gp D N s1 0 (a : Int) hL k1 (by rw [hs1]; show 1 ≤ 100000; decide) (by omega) ⟨by decide, by decide⟩ ⟨by omega, by omega⟩))
  rw [← hs1] at b0
  rw [b0] at F1
  have F2 := Lib.hid (fun W (hb : OneP L zs zs.length (fun _ => False) W gp w3.heap.size 3298534883328 s2) => hb.land C (fun D N hL hN => C.clone zs _ W gp D N s2 0 hL k2 (by rw [b4]; show 1 ≤ 100000; decide) (by omega) ⟨by decide, by decide⟩))
  rw [b5] at F2
  have HK3 := Lib.hid k3
  have HS3 := Lib.hid (And.intro b6 (And.intro b7 (And.intro b8 b9)))
  have y1 := (HBX3.out.later hB4).cell 1 rfl
  have hk1 : IntKind.i64.wrap (kk : Int) = (kk : Int) := IntWalk.i64_in _ (by omega)
  have hne1 : ¬ ((ne : Int) + 1 = 0) := by omega
  have ha1 : (kk : Int).tmod ((ne : Int) + 1) = (a : Int) := ha1
  clear hL hD hNN hB4 f0 k0 k1 k2 k3 hs1 hs3 b0 b1 b2 b3 b4 b5 b6 b7 b8 b9 hids HN hzs
  go_wp2_with fail
  refine F0.out.mono ?_
  rintro e w5 ⟨rfl, hs5⟩
  have G5 := Lib.hid (F1.out w5 hs5.1)
  have B5 := Lib.hid hs5.2.2
  have y1 := ((HBX3.out.below HB4.out HBX3.out.1).below B5.out (Nat.lt_of_lt_of_le HBX3.out.1 (Nat.le_refl _))).cell 1 rfl
  clear hs5
  go_wp2_with fail
  refine G5.out.mono ?_
  rintro e w6 ⟨rfl, hs6⟩
  have G6 := Lib.hid (F2.out w6 hs6.1)
  have B6 := Lib.hid (B5.out.trans hs6.2.2)
  clear hs6
  go_wp2_with fail
  refine G6.out.mono ?_
  rintro e w7 ⟨rfl, hs7⟩
  have HO7 := Lib.hid hs7.1
  have B7 := Lib.hid ((HB4.out.trans B6.out).trans hs7.2.2)
  clear hs7 F0 F1 F2 G5 G6 y1 hk1
  go_wp2_with fail
  go_loopw [80] (fun i wr => ∃ (k : Nat) (s : PS) (Bk : Nat), k ≤ ln ∧ i = .int .i64 (k : Nat) ∧ OneP L zs zs.length (fun _ => False) wr gp w3.heap.size Bk s ∧ OkP s ∧ s.hs.length ≤ k + 2 ∧ s.hs[0]? = some (some a) ∧ s.t = t ∧ s.er = 13 ∧ Bk ≤ 8796093022208 * (k + 1) ∧ Below w3.heap.size w3 wr) (fun i _ => ln - (intOf i).toNat)
  case atStart => exact ⟨0, s3, _, Nat.zero_le _, rfl, HO7.out, HK3.out, by rw [HS3.out.2.2.2]; exact Nat.le_refl _, by rw [HS3.out.2.2.2]; rfl, HS3.out.1, HS3.out.2.1, by omega, B7.out⟩
  case round =>
    obtain ⟨k, s, Bk, hk, rfl, hop, hok, hsl, ha0, ht0, her0, hBk, hBr⟩ := hrel
    have HOKs := Lib.hid hok
    have HA0 := Lib.hid ha0
    have HT0 := Lib.hid ht0
    have HE0 := Lib.hid her0
    by_cases hkn : k < ln
    rotate_left
    · obtain rfl : k = ln := by omega
      have hkn' : ¬ ((k : Int) < (k : Int)) := by omega
      have hN := hop.nextL C hok (by omega) (by omega) 0 ⟨by decide, by decide⟩
      have hh : headP s.hs 0 = some a := head_get (i := 0) ha0
      have hx11 := HBX3.out.below hBr HBX3.out.1
      have hae : a ≤ ne := by omega
      by_cases hlast : a = ne
      · have hE : nextP s 0 = (noEv, 13, s) := by
          unfold nextP
          rw [hh]
          simp only
          rw [if_neg (by rw [ht0, HEL.out]; omega), her0]
        rw [hE] at hN
        have HNX := Lib.hid hN
        have hla : ((a : Int) == (ne : Int)) = true := by simp [hlast]
        have HBR := Lib.hid hBr
        clear hN hE hh hx11 hop hok ha0 hBr hlast
        go_wp2_with fail
        refine HNX.out.mono ?_
        rintro e w8 ⟨K, kc, rfl, -, ho8, -, hb8⟩
        have hal8 := (Below.refl _ w8).alloc (Nat.le_refl _) (.cells #[.int .u64 noEv.time, .slice K noEv.ids.length kc] 46)
        have HB9 := Lib.hid ((HBR.out.trans hb8).trans (hal8.mono ho8.base))
        have hx9 := HBX3.out.below HB9.out HBX3.out.1
        have y1 := hx9.cell 1 rfl
        have HBW := Lib.hid (HB3.out.trans (HB9.out.mono HB3.out.size))
        clear hx9 hal8 ho8 hb8
        go_wp2_with fail
        refine (HAW.out _).mono ?_
        rintro e w10 ⟨rfl, hB10⟩
        have HB10 := Lib.hid (HBW.out.trans (hB10.mono HBW.out.size))
        clear hB10
        go_wp2_with fail
        go_ret
        exact ⟨rfl, HB10.out⟩
      · have halt : a < t.events.length := by have := HEL.out; omega
        have hE : (nextP s 0).1 = t.events.getD a noEv ∧ (nextP s 0).2.1 = 0 := by
          unfold nextP
          rw [hh]
          simp only
          rw [if_pos (by rw [ht0]; exact halt), ht0]
          exact ⟨rfl, rfl⟩
        obtain ⟨x, hx⟩ : ∃ x, t.events.getD a noEv = x := ⟨_, rfl⟩
        rw [hE.1, hE.2, hx] at hN
        have HNX := Lib.hid hN
        have hla : ((a : Int) == (ne : Int)) = false := by simp; omega
        have HBR := Lib.hid hBr
        have HX := Lib.hid hx
        have han : (a : Int) < (ne : Int) := by omega
        clear hN hE hh hx11 hop hok ha0 hBr hlast hx
        go_wp2_with fail
        refine HNX.out.mono ?_
        rintro e w8 ⟨K, kc, rfl, hev8, ho8, -, hb8⟩
        have hal8 := (Below.refl _ w8).alloc (Nat.le_refl _) (.cells #[.int .u64 x.time, .slice K x.ids.length kc] 46)
        have hb9 := (HBR.out.trans hb8).trans (hal8.mono ho8.base)
        have HB9 := Lib.hid hb9
        have hx9 := HBX3.out.below hb9 HBX3.out.1
        have y1 := hx9.cell 1 rfl
        have HBW := Lib.hid (HB3.out.trans (hb9.mono HB3.out.size))
        have he9 := Blk.new w8 #[.int .u64 x.time, .slice K x.ids.length kc] 46 [.int .u64 x.time, .slice K x.ids.length kc] rfl
        have hev9 := hev8.below hal8
        obtain ⟨w9, hw9⟩ : ∃ w9, w8.alloc (.cells #[.int .u64 x.time, .slice K x.ids.length kc] 46) = w9 := ⟨_, rfl⟩
        obtain ⟨g8, hg8⟩ : ∃ g8, w8.heap.size = g8 := ⟨_, rfl⟩
        rw [hw9] at hb9 hx9 y1 HBW he9 hev9 HB9
        rw [hg8] at he9
        have e0 := he9.cell 0 rfl
        have e1 := he9.cell 1 rfl
        have htr9 : TrOk Any w9 NA nn nc EA ne ec t := ⟨HTR3.out.1, HTR3.out.2, strs_at HTR3.out.3 (fun q e h0 => HB9.out.block _ (by
            obtain ⟨b', off', e2, hcc⟩ := HTR3.out.3 h0
            rw [e] at e2
            injection e2 with e2
            subst e2
            obtain ⟨s0, hs0⟩ : ∃ s0, t.names[0]? = some s0 := ⟨_, List.getElem?_eq_getElem h0⟩
            exact World.block_lt_of_cell? w3 _ (hcc 0 s0 hs0))), HTR3.out.4, HTR3.out.5.below HB9.out, HTR3.out.6, HTR3.out.7⟩
        obtain ⟨b', off', K2, kc2, rfl, v0, v1, hev2⟩ := htr9.evs.kids (k := a) halt
        rw [HX.out] at v0 v1 hev2
        have hdr := (Below.refl w9.heap.size w9).drew
        have hev9d := hev9.below hdr
        have hev2d := hev2.below hdr
        obtain ⟨V, hV⟩ : ∃ V, w9.drew = V := ⟨_, rfl⟩
        rw [hV] at hdr hev9d hev2d
        have FS := refSameEvent x x K K2 kc kc2 V hev9d hev2d
        rw [show decide (x = x) = true from decide_eq_true rfl] at FS
        have HFS := Lib.hid FS
        have HBV := Lib.hid (HBW.out.trans (hdr.mono HBW.out.size))
        clear hal8 hb9 hx9 he9 hev9 hev8 htr9 hev2 hdr hev9d hev2d FS ho8 hb8
        go_wp2_with fail
        refine wp_region_held_drew (S := fun W => W.cell? ⟨g8, 0, none⟩ = some (.int .u64 x.time) ∧ W.cell? ⟨g8, 1, none⟩ = some (.slice K x.ids.length kc) ∧ W.cell? ⟨g1, 1, none⟩ = some (.slice (some ⟨b', off', none⟩) ne ec) ∧ W.cell? ⟨b', off' + a * 2, none⟩ = some (.int .u64 x.time) ∧ W.cell? ⟨b', off' + a * 2 + 1, none⟩ = some (.slice K2 x.ids.length kc2)) (by kernel_rfl) (by exact ⟨e0, e1, y1, v0, v1⟩) (fun hHeld => ?_)
        rw [hV] at hHeld ⊢
        clear hV hw9 hg8
        have HS := Lib.hid hHeld
        clear e0 e1 y1 v0 v1
        refine wpAnyH_take (i := 0) (oi := ?tko1) (v := ?tkv1) ?tkh1 (by kernel_rfl) (by kernel_rfl) (by kernel_rfl) ?tkq1 ?tky1 hHeld ?tkr1
        case tkh1 => (simp only [List.getElem?_toArray, List.getElem?_cons_zero]; rfl)
        case tkq1 => exact fun _ _ _ h => h
        case tky1 => exact Or.inl ⟨by rfl, by intro wSw hSw; (try dsimp only at hSw); go_simp; try with_reducible rfl⟩
        try simp only [Act.put, List.setIfInBounds_toArray, List.set_cons_zero, List.set_cons_succ]
        refine wpAnyH_take (i := 1) (oi := ?tko2) (v := ?tkv2) ?tkh2 (by kernel_rfl) (by kernel_rfl) (by kernel_rfl) ?tkq2 ?tky2 hHeld ?tkr2
        case tkh2 => (simp only [List.getElem?_toArray, List.getElem?_cons_succ, List.getElem?_cons_zero]; rfl)
        case tkq2 => exact fun _ _ _ h => h
        case tky2 => exact Or.inl ⟨by rfl, by intro wSw hSw; (try dsimp only at hSw); go_simp; try with_reducible rfl⟩
        try simp only [Act.put, List.setIfInBounds_toArray, List.set_cons_zero, List.set_cons_succ]
        refine wpAnyH_take (i := 2) (oi := ?tko3) (v := ?tkv3) ?tkh3 (by kernel_rfl) (by kernel_rfl) (by kernel_rfl) ?tkq3 ?tky3 hHeld ?tkr3
        case tkh3 => (simp only [List.getElem?_toArray, List.getElem?_cons_succ, List.getElem?_cons_zero]; rfl)
        case tkq3 => exact fun _ _ _ h => h
        case tky3 => exact Or.inl ⟨by rfl, by intro wSw hSw; (try dsimp only at hSw); go_simp; try with_reducible rfl⟩
        try simp only [Act.put, List.setIfInBounds_toArray, List.set_cons_zero, List.set_cons_succ]
        refine wpAnyH_take (i := 3) (oi := ?tko4) (v := ?tkv4) ?tkh4 (by kernel_rfl) (by kernel_rfl) (by kernel_rfl) ?tkq4 ?tky4 hHeld ?tkr4
        case tkh4 => (simp only [List.getElem?_toArray, List.getElem?_cons_succ, List.getElem?_cons_zero]; rfl)
        case tkq4 => exact fun _ _ _ h => h
        case tky4 => exact Or.inl ⟨by rfl, by intro wSw hSw; (try dsimp only at hSw); go_simp; try with_reducible rfl⟩
        try simp only [Act.put, List.setIfInBounds_toArray, List.set_cons_zero, List.set_cons_succ]
        refine wpAnyH_take (i := 4) (oi := ?tko5) (v := ?tkv5) ?tkh5 (by kernel_rfl) (by kernel_rfl) (by kernel_rfl) ?tkq5 ?tky5 hHeld ?tkr5
        case tkh5 => (simp only [List.getElem?_toArray, List.getElem?_cons_succ, List.getElem?_cons_zero]; rfl)
        case tkq5 => exact fun _ _ _ h => h
        case tky5 => exact Or.inl ⟨by rfl, by intro wSw hSw; (try dsimp only at hSw); go_simp; try with_reducible rfl⟩
        try simp only [Act.put, List.setIfInBounds_toArray, List.set_cons_zero, List.set_cons_succ]
        refine wpAnyH_take (i := 5) (oi := ?tko6) (v := ?tkv6) ?tkh6 (by kernel_rfl) (by kernel_rfl) (by kernel_rfl) ?tkq6 ?tky6 hHeld ?tkr6
        case tkh6 => (simp only [List.getElem?_toArray, List.getElem?_cons_succ, List.getElem?_cons_zero]; rfl)
        case tkq6 => exact fun _ _ _ h => h
        case tky6 => exact Or.inl ⟨by rfl, by intro wSw hSw; (try dsimp only at hSw); go_simp; try with_reducible rfl⟩
        try simp only [Act.put, List.setIfInBounds_toArray, List.set_cons_zero, List.set_cons_succ]
        refine wpAnyH_take (i := 6) (oi := ?tko7) (v := ?tkv7) ?tkh7 (by kernel_rfl) (by kernel_rfl) (by kernel_rfl) ?tkq7 ?tky7 hHeld ?tkr7
        case tkh7 => (simp only [List.getElem?_toArray, List.getElem?_cons_succ, List.getElem?_cons_zero]; rfl)
        case tkq7 => exact fun _ _ _ h => h
        case tky7 => exact Or.inl ⟨by rfl, by intro wSw hSw; (try dsimp only at hSw); go_simp; try with_reducible rfl⟩
        try simp only [Act.put, List.setIfInBounds_toArray, List.set_cons_zero, List.set_cons_succ]
        refine wpAnyH_take (i := 7) (oi := ?tko8) (v := ?tkv8) ?tkh8 (by kernel_rfl) (by kernel_rfl) (by kernel_rfl) ?tkq8 ?tky8 hHeld ?tkr8
        case tkh8 => (simp only [List.getElem?_toArray, List.getElem?_cons_succ, List.getElem?_cons_zero]; rfl)
        case tkq8 => exact fun _ _ _ h => h
        case tky8 => exact Or.inl ⟨by rfl, by intro wSw hSw; (try dsimp only at hSw); go_simp; try with_reducible rfl⟩
        try simp only [Act.put, List.setIfInBounds_toArray, List.set_cons_zero, List.set_cons_succ]
        refine wpAnyH_take (i := 8) (oi := ?tko9) (v := ?tkv9) ?tkh9 (by kernel_rfl) (by kernel_rfl) (by kernel_rfl) ?tkq9 ?tky9 hHeld ?tkr9
        case tkh9 => (simp only [List.getElem?_toArray, List.getElem?_cons_succ, List.getElem?_cons_zero]; rfl)
        case tkq9 => exact fun _ _ _ h => h
        case tky9 => exact Or.inl ⟨by rfl, by intro wSw hSw; (try dsimp only at hSw); go_simp; try with_reducible rfl⟩
        try simp only [Act.put, List.setIfInBounds_toArray, List.set_cons_zero, List.set_cons_succ]
        refine wpAnyH_ready (rs := [9]) (by kernel_rfl) (by simp) ?_
        refine AllReadyH.cons (o := ?tko10) ?tkh10 (fun Kt10 hKt10 => ?_) AllReadyH.nil
        case tkh10 => (simp only [List.getElem?_toArray, List.getElem?_cons_succ, List.getElem?_cons_zero]; rfl)
        go_simp
        (refine HFS.out.mono ?_; rintro e w10 ⟨rfl, hB10⟩; have HB10 := Lib.hid hB10; clear hB10)
        refine hKt10.out _ _ ?_ (fun hHt10 => ?_)
        · (exact ⟨below_cell HB10.out HS.out.1, below_cell HB10.out HS.out.2.1, below_cell HB10.out HS.out.2.2.1, below_cell HB10.out HS.out.2.2.2.1, below_cell HB10.out HS.out.2.2.2.2⟩)
        clear hKt10 Kt10 hHeld
        have hHeld := hHt10
        clear hHt10
        try simp only [Act.put, List.setIfInBounds_toArray, List.set_cons_zero, List.set_cons_succ]
        refine wpAnyH_take (i := 10) (oi := ?tko11) (v := ?tkv11) ?tkh11 (by kernel_rfl) (by kernel_rfl) (by kernel_rfl) ?tkq11 ?tky11 hHeld ?tkr11
        case tkh11 => (simp only [List.getElem?_toArray, List.getElem?_cons_succ, List.getElem?_cons_zero]; rfl)
        case tkq11 => exact fun _ _ _ h => h
        case tky11 => exact Or.inl ⟨by rfl, by intro wSw hSw; (try dsimp only at hSw); go_simp; try with_reducible rfl⟩
        try simp only [Act.put, List.setIfInBounds_toArray, List.set_cons_zero, List.set_cons_succ]
        refine wpAnyH_take (i := 11) (oi := ?tko12) (v := ?tkv12) ?tkh12 (by kernel_rfl) (by kernel_rfl) (by kernel_rfl) ?tkq12 ?tky12 hHeld ?tkr12
        case tkh12 => (simp only [List.getElem?_toArray, List.getElem?_cons_succ, List.getElem?_cons_zero]; rfl)
        case tkq12 => exact fun _ _ _ h => h
        case tky12 => exact Or.inl ⟨by rfl, by intro wSw hSw; (try dsimp only at hSw); go_simp; try with_reducible rfl⟩
        try simp only [Act.put, List.setIfInBounds_toArray, List.set_cons_zero, List.set_cons_succ]
        have HS2 := Lib.hid hHeld
        refine wpAnyH_ready (rs := [12]) (by kernel_rfl) (by simp) ?_
        refine AllReadyH.cons (o := ?tko13) ?tkh13 (fun Kt13 hKt13 => ?_) AllReadyH.nil
        case tkh13 => (simp only [List.getElem?_toArray, List.getElem?_cons_succ, List.getElem?_cons_zero]; rfl)
        go_simp
        (refine (HAW.out w10).mono ?_; rintro e w11 ⟨rfl, hB11⟩; have HB11 := Lib.hid hB11; clear hB11)
        refine hKt13.out _ _ ?_ (fun hHt13 => ?_)
        · (exact ⟨below_cell HB11.out HS2.out.1, below_cell HB11.out HS2.out.2.1, below_cell HB11.out HS2.out.2.2.1, below_cell HB11.out HS2.out.2.2.2.1, below_cell HB11.out HS2.out.2.2.2.2⟩)
        clear hKt13 Kt13 hHeld
        have hHeld := hHt13
        clear hHt13
        try simp only [Act.put, List.setIfInBounds_toArray, List.set_cons_zero, List.set_cons_succ]
        refine wpAnyH_take (i := 13) (oi := ?tko14) (v := ?tkv14) ?tkh14 (by kernel_rfl) (by kernel_rfl) (by kernel_rfl) ?tkq14 ?tky14 hHeld ?tkr14
        case tkh14 => (simp only [List.getElem?_toArray, List.getElem?_cons_succ, List.getElem?_cons_zero]; rfl)
        case tkq14 => exact fun _ _ _ h => h
        case tky14 => exact Or.inl ⟨by rfl, by intro wSw hSw; (try dsimp only at hSw); go_simp; try with_reducible rfl⟩
        try simp only [Act.put, List.setIfInBounds_toArray, List.set_cons_zero, List.set_cons_succ]
        refine wpAnyH_take (i := 14) (oi := ?tko15) (v := ?tkv15) ?tkh15 (by kernel_rfl) (by kernel_rfl) (by kernel_rfl) ?tkq15 ?tky15 hHeld ?tkr15
        case tkh15 => (simp only [List.getElem?_toArray, List.getElem?_cons_succ, List.getElem?_cons_zero]; rfl)
        case tkq15 => exact fun _ _ _ h => h
        case tky15 => exact Or.inl ⟨by rfl, by intro wSw hSw; (try dsimp only at hSw); go_simp; try with_reducible rfl⟩
        try simp only [Act.put, List.setIfInBounds_toArray, List.set_cons_zero, List.set_cons_succ]
        refine wpAnyH_done (by kernel_rfl) ?_ _
        clear hHeld
        have HBZ := Lib.hid ((HBV.out.trans (HB10.out.mono HBV.out.size)).trans (HB11.out.mono (HBV.out.trans (HB10.out.mono HBV.out.size)).size))
        go_wp2_with fail
        go_ret
        exact ⟨rfl, HBZ.out⟩
    have hkn' : (k : Int) < (ln : Int) := by omega
    have hlc' : (ln : Int) ≤ (lc : Int) := by omega
    have hBw := HB3.out.trans (hBr.mono HB3.out.size)
    obtain ⟨bb, off, x, y, z, rfl, -, r0, r1, r2, wx, wy, wz⟩ := (HRA.out.below hBw).three (j := k) (by rw [HRL.out]; exact hkn)
    have hx255 := wf_u8 wx
    have hy64 := wf_i64 wy
    have hz64 := wf_i64 wz
    obtain ⟨r, hr⟩ : ∃ r : Nat, x % 5 = (r : Int) := ⟨(x % 5).toNat, by omega⟩
    have hr5 : r < 5 := by omega
    have hal := (Below.refl _ wr).alloc (Nat.le_refl _) (.cells #[.int .u8 x, .int .i64 y, .int .i64 z] 43)
    have hb1 := hop.box C (.cells #[.int .u8 x, .int .i64 y, .int .i64 z] 43)
    have hx1 := Blk.new wr #[.int .u8 x, .int .i64 y, .int .i64 z] 43 [.int .u8 x, .int .i64 y, .int .i64 z] rfl
    have HB5 := Lib.hid (hBr.trans (hal.mono hop.base))
    obtain ⟨w5', hw5⟩ : ∃ w5', wr.alloc (.cells #[.int .u8 x, .int .i64 y, .int .i64 z] 43) = w5' := ⟨_, rfl⟩
    obtain ⟨g0, hg0⟩ : ∃ g0, wr.heap.size = g0 := ⟨_, rfl⟩
    rw [hw5] at hb1 hx1 HB5
    rw [hg0] at hb1 hx1
    have x0 := hx1.cell 0 rfl
    have x1 := hx1.cell 1 rfl
    have x2 := hx1.cell 2 rfl
    have HO5 := Lib.hid hb1
    have HX1 := Lib.hid hx1
    clear hal hb1 hop hok ha0 ht0 her0 hBr hBw hx1
    by_cases hy0 : y = 0
    · have hy0' : (y == 0) = true := by simp [hy0]
      clear hy0
      go_wp2_with fail
      go_roundw
      case rel => exact ⟨k + 1, s, Bk, by omega, by go_num, HO5.out.less (fun q hq => False.elim hq) (Nat.le_refl _), HOKs.out, by omega, HA0.out, HT0.out, HE0.out, by omega, HB5.out⟩
      case measure => simp [intOf]; omega
    have hy0' : (y == 0) = false := by simp [hy0]
    by_cases e0 : r = 0
    · subst e0
      have hr : x % 5 = 0 := hr
      go_wp2_with fail
      go_roundw
      case rel => exact ⟨k + 1, s, Bk, by omega, by go_num, HO5.out.less (fun q hq => False.elim hq) (Nat.le_refl _), HOKs.out, by omega, HA0.out, HT0.out, HE0.out, by omega, HB5.out⟩
      case measure => simp [intOf]; omega
    by_cases e1 : r = 1
    · subst e1
      have hr : x % 5 = 1 := hr
      have HCT := Lib.hid (HO5.out.land C (fun D N hL hN => C.count zs _ w5' gp D N s hL HOKs.out (by omega) (by omega)))
      go_wp2_with fail
      refine HCT.out.mono ?_
      rintro e w6' ⟨rfl, hs6⟩
      have hx6 := HX1.out.same hs6.2.2.size (hs6.2.1 _ (.inr rfl))
      have x0 := hx6.cell 0 rfl
      have x1 := hx6.cell 1 rfl
      have HO6 := Lib.hid hs6.1
      have HB6' := Lib.hid (HB5.out.trans hs6.2.2)
      clear hs6 hx6
      by_cases h9 : countP s.hs = 9
      · have h9' : ((countP s.hs : Int) == 9) = true := by simp [h9]
        clear h9
        go_wp2_with fail
        go_roundw
        case rel => exact ⟨k + 1, s, _, by omega, by go_num, HO6.out.less (fun q hq => False.elim hq) (Nat.le_refl _), HOKs.out, by omega, HA0.out, HT0.out, HE0.out, by omega, HB6'.out⟩
        case measure => simp [intOf]; omega
      have h9' : ((countP s.hs : Int) == 9) = false := by simp; omega
      have hst := other_stays HA0.out 1 (id := y) hy0 z
      have hlen := (did_len s 1 y z).1
      have HOK' := Lib.hid (HOKs.out.did 1 y z)
      obtain ⟨s', hs'⟩ : ∃ s', didP s 1 y z = s' := ⟨_, rfl⟩
      rw [hs'] at hst hlen HOK'
      obtain ⟨hst0, hst1, hst2, -⟩ := hst
      have HH0 := Lib.hid (show headP s'.hs 0 = some a from head_get (i := 0) hst0)
      have HST := Lib.hid (And.intro hst0 (And.intro (hst1.trans HT0.out) (hst2.trans HE0.out)))
      have HC := HO6.out.land C (fun D N hL hN => C.clone zs _ w6' gp D N s y hL HOKs.out (by omega) (by omega) hy64)
      rw [show (cloneP s y).2.2 = s' from hs'] at HC
      have HC := Lib.hid HC
      clear hst0 hst1 hst2
      go_wp2_with fail
      refine HC.out.mono ?_
      rintro e w8 ⟨rfl, hs8⟩
      have HO8 := Lib.hid (hs8.1.less (Y := fun _ => False) (fun q hq => False.elim hq) (Nat.le_refl _))
      have HB8 := Lib.hid (HB6'.out.trans hs8.2.2)
      clear hs8
      have HI0 := HO8.out.land C (fun D N hL hN => C.index zs _ w8 gp D N s' 0 hL HOK'.out (by omega) (by omega) ⟨by decide, by decide⟩)
      rw [HH0.out] at HI0
      have HI := Lib.hid (show Calls Try.prog 17 #[.pointer (some ⟨gp, 0, none⟩), .int .i64 0] w8 fun e w' => e = .returned (.tuple #[.int .i64 (a : Nat), .bool true]) ∧ StepO L zs zs.length (fun _ => False) w8 w' gp w3.heap.size _ s' from HI0)
      clear HI0
      go_wp2_with fail
      refine HI.out.mono ?_
      rintro e w9 ⟨rfl, hs9⟩
      have HS9 := Lib.hid hs9
      have HB9 := Lib.hid (HB8.out.trans hs9.2.2)
      clear hs9
      go_wp2_with fail
      go_roundw
      case rel => exact ⟨k + 1, s', _, by omega, by go_num, HS9.out.1, HOK'.out, by omega, HST.out.1, HST.out.2.1, HST.out.2.2, by omega, HB9.out⟩
      case measure => simp [intOf]; omega
    by_cases e2 : r = 2
    · subst e2
      have hr : x % 5 = 2 := hr
      have hst := other_stays HA0.out 2 (id := y) hy0 z
      have hlen := (did_len s 2 y z).1
      have HOK' := Lib.hid (HOKs.out.did 2 y z)
      obtain ⟨s', hs'⟩ : ∃ s', didP s 2 y z = s' := ⟨_, rfl⟩
      rw [hs'] at hst hlen HOK'
      obtain ⟨hst0, hst1, hst2, -⟩ := hst
      have HH0 := Lib.hid (show headP s'.hs 0 = some a from head_get (i := 0) hst0)
      have HST := Lib.hid (And.intro hst0 (And.intro (hst1.trans HT0.out) (hst2.trans HE0.out)))
      have HC := HO5.out.nextL C HOKs.out (by omega) (by omega) y hy64
      rw [show (nextP s y).2.2 = s' from hs'] at HC
      have HC := Lib.hid HC
      clear hst0 hst1 hst2
      go_wp2_with fail
      refine HC.out.mono ?_
      rintro e w8 ⟨K8, c8, rfl, -, ho8, -, hb8⟩
      have HO8 := Lib.hid (ho8.less (Y := fun _ => False) (fun q hq => False.elim hq) (Nat.le_refl _))
      have HB8 := Lib.hid (HB5.out.trans hb8)
      clear ho8 hb8
      have HI0 := HO8.out.land C (fun D N hL hN => C.index zs _ w8 gp D N s' 0 hL HOK'.out (by omega) (by omega) ⟨by decide, by decide⟩)
      rw [HH0.out] at HI0
      have HI := Lib.hid (show Calls Try.prog 17 #[.pointer (some ⟨gp, 0, none⟩), .int .i64 0] w8 fun e w' => e = .returned (.tuple #[.int .i64 (a : Nat), .bool true]) ∧ StepO L zs zs.length (fun _ => False) w8 w' gp w3.heap.size _ s' from HI0)
      clear HI0
      go_wp2_with fail
      refine HI.out.mono ?_
      rintro e w9 ⟨rfl, hs9⟩
      have HS9 := Lib.hid hs9
      have HB9 := Lib.hid (HB8.out.trans hs9.2.2)
      clear hs9
      go_wp2_with fail
      go_roundw
      case rel => exact ⟨k + 1, s', _, by omega, by go_num, HS9.out.1, HOK'.out, by omega, HST.out.1, HST.out.2.1, HST.out.2.2, by omega, HB9.out⟩
      case measure => simp [intOf]; omega
    by_cases e3 : r = 3
    · subst e3
      have hr : x % 5 = 3 := hr
      have hst := other_stays HA0.out 3 (id := y) hy0 z
      have hlen := (did_len s 3 y z).1
      have HOK' := Lib.hid (HOKs.out.did 3 y z)
      obtain ⟨s', hs'⟩ : ∃ s', didP s 3 y z = s' := ⟨_, rfl⟩
      rw [hs'] at hst hlen HOK'
      obtain ⟨hst0, hst1, hst2, -⟩ := hst
      have HH0 := Lib.hid (show headP s'.hs 0 = some a from head_get (i := 0) hst0)
      have HST := Lib.hid (And.intro hst0 (And.intro (hst1.trans HT0.out) (hst2.trans HE0.out)))
      have HC := HO5.out.land C (fun D N hL hN => C.seek zs _ w5' gp D N s y z hL HOKs.out (by omega) (by omega) hy64 hz64)
      rw [show (seekP s y z).2 = s' from hs'] at HC
      have HC := Lib.hid HC
      clear hst0 hst1 hst2
      go_wp2_with fail
      refine HC.out.mono ?_
      rintro e w8 ⟨rfl, hs8⟩
      have HO8 := Lib.hid (hs8.1.less (Y := fun _ => False) (fun q hq => False.elim hq) (Nat.le_refl _))
      have HB8 := Lib.hid (HB5.out.trans hs8.2.2)
      clear hs8
      have HI0 := HO8.out.land C (fun D N hL hN => C.index zs _ w8 gp D N s' 0 hL HOK'.out (by omega) (by omega) ⟨by decide, by decide⟩)
      rw [HH0.out] at HI0
      have HI := Lib.hid (show Calls Try.prog 17 #[.pointer (some ⟨gp, 0, none⟩), .int .i64 0] w8 fun e w' => e = .returned (.tuple #[.int .i64 (a : Nat), .bool true]) ∧ StepO L zs zs.length (fun _ => False) w8 w' gp w3.heap.size _ s' from HI0)
      clear HI0
      go_wp2_with fail
      refine HI.out.mono ?_
      rintro e w9 ⟨rfl, hs9⟩
      have HS9 := Lib.hid hs9
      have HB9 := Lib.hid (HB8.out.trans hs9.2.2)
      clear hs9
      go_wp2_with fail
      go_roundw
      case rel => exact ⟨k + 1, s', _, by omega, by go_num, HS9.out.1, HOK'.out, by omega, HST.out.1, HST.out.2.1, HST.out.2.2, by omega, HB9.out⟩
      case measure => simp [intOf]; omega
    obtain rfl : r = 4 := by omega
    have hr : x % 5 = 4 := hr
    have hst := other_stays HA0.out 4 (id := y) hy0 z
    have hlen := (did_len s 4 y z).1
    have HOK' := Lib.hid (HOKs.out.did 4 y z)
    obtain ⟨s', hs'⟩ : ∃ s', didP s 4 y z = s' := ⟨_, rfl⟩
    rw [hs'] at hst hlen HOK'
    obtain ⟨hst0, hst1, hst2, -⟩ := hst
    have HH0 := Lib.hid (show headP s'.hs 0 = some a from head_get (i := 0) hst0)
    have HST := Lib.hid (And.intro hst0 (And.intro (hst1.trans HT0.out) (hst2.trans HE0.out)))
    have HC := HO5.out.land C (fun D N hL hN => C.close zs _ w5' gp D N s y hL HOKs.out (by omega) (by omega) hy64)
    rw [show (closeP s y).2 = s' from hs'] at HC
    have HC := Lib.hid HC
    clear hst0 hst1 hst2
    go_wp2_with fail
    refine HC.out.mono ?_
    rintro e w8 ⟨rfl, hs8⟩
    have HO8 := Lib.hid (hs8.1.less (Y := fun _ => False) (fun q hq => False.elim hq) (Nat.le_refl _))
    have HB8 := Lib.hid (HB5.out.trans hs8.2.2)
    clear hs8
    have HI0 := HO8.out.land C (fun D N hL hN => C.index zs _ w8 gp D N s' 0 hL HOK'.out (by omega) (by omega) ⟨by decide, by decide⟩)
    rw [HH0.out] at HI0
    have HI := Lib.hid (show Calls Try.prog 17 #[.pointer (some ⟨gp, 0, none⟩), .int .i64 0] w8 fun e w' => e = .returned (.tuple #[.int .i64 (a : Nat), .bool true]) ∧ StepO L zs zs.length (fun _ => False) w8 w' gp w3.heap.size _ s' from HI0)
    clear HI0
    go_wp2_with fail
    refine HI.out.mono ?_
    rintro e w9 ⟨rfl, hs9⟩
    have HS9 := Lib.hid hs9
    have HB9 := Lib.hid (HB8.out.trans hs9.2.2)
    clear hs9
    go_wp2_with fail
    go_roundw
    case rel => exact ⟨k + 1, s', _, by omega, by go_num, HS9.out.1, HOK'.out, by omega, HST.out.1, HST.out.2.1, HST.out.2.2, by omega, HB9.out⟩
    case measure => simp [intOf]; omega
end Go.Proofs.Ytimbbfneaaglbaa.Heads
