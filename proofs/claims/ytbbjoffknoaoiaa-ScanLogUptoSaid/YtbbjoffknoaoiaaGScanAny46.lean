/-
  What a call that reads a log leaves. By an AI agent.
  The walk of the landed Decode (package log). By an AI agent.
-/
import Derived.Test.YtbbjoffknoaoiaaGScanAny9
import Derived.Test.YtbbjoffknoaoiaaGScanAny19
import Derived.Test.YtbbjoffknoaoiaaGScanAny25
import Derived.Test.YtbbjoffknoaoiaaGScanAny13
import Derived.Test.YtbbjoffknoaoiaaGScanAny45
namespace Go.Proofs.Ytbbjoffknoaoiaa.Log
open Go.RowKit Go.Proofs.Ytbbjoffknoaoiaa.Ints Go.Proofs.Ytbbjoffknoaoiaa.Mem Go.Proofs.Ytbbjoffknoaoiaa.SumMath Go.Proofs.Ytbbjoffknoaoiaa.SumWalks Go.Proofs.Ytbbjoffknoaoiaa.Trace Go.Proofs.Ytbbjoffknoaoiaa.Record

theorem strs_set {W : World} {A : Option Addr} {l : List (List UInt8)} {g : Nat} (h : Strs W A l) (hne : ∀ a, A = some a → a.block ≠ g) (u0 u1 : Value) : Strs ((W.setCell ⟨g, 0, none⟩ u0).setCell ⟨g, 1, none⟩ u1) A l := fun h0 => by
  obtain ⟨b, off, e, hc⟩ := h h0
  refine ⟨b, off, e, fun j s hs => ?_⟩
  rw [Record.set2_cell W g u0 u1 ⟨b, off + j, none⟩ (show b ≠ g from hne _ e)]
  exact hc j s hs
theorem grown_set (w : World) (p : Addr) (u : Value) : w.grownBy (w.setCell p u) (some p.block) :=
  ⟨rfl, rfl, rfl, by simp [World.setCell], fun k _ hne => Below.heap_setCell w p u k (fun e => hne (by rw [e]))⟩
/-- What Decode leaves: the trace, the number of its events, and a number. -/
def GotDec (w : World) (b : List Int) (e : Ending) (w' : World) : Prop :=
  ∃ NA nc EA ec, e = .returned (.tuple #[.agg #[.slice NA (decT b).names.length nc, .slice EA (decT b).events.length ec], .int .i64 ((decT b).events.length : Nat), .int .i64 (decE b : Nat)]) ∧
    TrOk Any w' NA (decT b).names.length nc EA (decT b).events.length ec (decT b) ∧ Below w.heap.size w w'
theorem tr_set {W : World} {NA EA : Option Addr} {nn nc ne ec g : Nat} {t : Tr} (h : TrOk (fun b => g < b) W NA nn nc EA ne ec t) (hN : ∀ a, NA = some a → g < a.block) (u0 u1 : Value) :
    TrOk Any ((W.setCell ⟨g, 0, none⟩ u0).setCell ⟨g, 1, none⟩ u1) NA nn nc EA ne ec t :=
  ⟨h.nlen, h.elen, strs_set h.names (fun a e => by have := hN a e; omega) _ _, h.sizes, (h.evs.keep fun p u hp hu => by rw [Record.set2_cell _ g _ _ _ (by have : g < p.block := hp; omega)]; exact hu).any, h.ncap, h.ecap⟩
/-- The same, with the trace in memory of the call's own. -/
def GotDecN (w : World) (b : List Int) (e : Ending) (w' : World) : Prop :=
  ∃ NA nc EA ec, e = .returned (.tuple #[.agg #[.slice NA (decT b).names.length nc, .slice EA (decT b).events.length ec], .int .i64 ((decT b).events.length : Nat), .int .i64 (decE b : Nat)]) ∧
    TrOk (fun b => w.heap.size ≤ b) w' NA (decT b).names.length nc EA (decT b).events.length ec (decT b) ∧ (∀ a, NA = some a → w.heap.size ≤ a.block) ∧ Below w.heap.size w w'
theorem GotDecN.any {w : World} {b : List Int} {e : Ending} {w' : World} (h : GotDecN w b e w') : GotDec w b e w' := by
  obtain ⟨NA, nc, EA, ec, h1, h2, -, h3⟩ := h
  exact ⟨NA, nc, EA, ec, h1, h2.any, h3⟩
theorem tr_setN {W : World} {NA EA : Option Addr} {nn nc ne ec g : Nat} {t : Tr} (h : TrOk (fun b => g < b) W NA nn nc EA ne ec t) (hN : ∀ a, NA = some a → g < a.block) (u0 u1 : Value) :
    TrOk (fun b => g ≤ b) ((W.setCell ⟨g, 0, none⟩ u0).setCell ⟨g, 1, none⟩ u1) NA nn nc EA ne ec t :=
  ⟨h.nlen, h.elen, strs_set h.names (fun a e => by have := hN a e; omega) _ _, h.sizes, (h.evs.keep fun p u hp hu => by rw [Record.set2_cell _ g _ _ _ (by have : g < p.block := hp; omega)]; exact hu).mono (fun b _ hb => Nat.le_of_lt hb), h.ncap, h.ecap⟩
/-- A trace of the call's own, beside a block that is stored into. -/
theorem tr_grown {B : Nat} {w w' : World} {NA EA : Option Addr} {nn nc ne ec g : Nat} {t : Tr} (h : TrOk (fun b => B ≤ b) w NA nn nc EA ne ec t) (hN : ∀ a, NA = some a → B ≤ a.block) (hg : w.grownBy w' (some g)) (hB : g < B) : TrOk (fun b => B ≤ b) w' NA nn nc EA ne ec t :=
  ⟨h.nlen, h.elen, fun h0 => by
    obtain ⟨b, off, e, hc⟩ := h.names h0
    refine ⟨b, off, e, fun j s hs => ?_⟩
    have h1 := hc j s hs
    have h2 : B ≤ b := hN _ e
    rw [World.cell?_of_block (w := w) (a := ⟨b, off + j, none⟩) (hg.block b (World.block_lt_of_cell? w _ h1) (by simp; omega))]
    exact h1, h.sizes, h.evs.keep fun p u hp hu => by
    have h2 : B ≤ p.block := hp
    rw [World.cell?_of_block (w := w) (a := p) (hg.block p.block (World.block_lt_of_cell? w _ hu) (by simp; omega))]
    exact hu, h.ncap, h.ecap⟩
end Go.Proofs.Ytbbjoffknoaoiaa.Log

namespace Go.Proofs.Ytbbjoffknoaoiaa.Log
open Go.RowKit Go.Proofs.Ytbbjoffknoaoiaa.Ints Go.Proofs.Ytbbjoffknoaoiaa.Mem Go.Proofs.Ytbbjoffknoaoiaa.SumMath Go.Proofs.Ytbbjoffknoaoiaa.SumWalks Go.Proofs.Ytbbjoffknoaoiaa.Trace Go.Proofs.Ytbbjoffknoaoiaa.Record

set_option maxHeartbeats 4000000 in
set_option maxRecDepth 100000 in
theorem landDecodeN (A : Option Addr) (n c : Nat) (zs : List Int) (w : World) (hnc : n ≤ c) (hc : c ≤ maxLen) (hn : n ≤ 58000000) (h : Rd .u8 w A n zs) :
    Calls Try.prog 16 #[.slice A n c] w (GotDecN w zs) := by
  have q63 : maxLen = 9223372036854775807 := rfl
  have b0 := Blk.new w #[.slice none 0 0, .slice none 0 0] 34 [.slice none 0 0, .slice none 0 0] rfl
  have hal := (Below.refl _ w).alloc (Nat.le_refl _) (.cells #[.slice none 0 0, .slice none 0 0] 34)
  obtain ⟨w0, hw0⟩ : ∃ w0, w.alloc (.cells #[.slice none 0 0, .slice none 0 0] 34) = w0 := ⟨_, rfl⟩
  rw [hw0] at b0 hal
  have FH := landHead A n c zs w0 hnc hc hn (h.below hal)
  unfold GotHead at FH
  have hs0 : w0.heap.size = w.heap.size + 1 := by rw [← hw0]; simp
  have hlen := h.len
  have hmiss := head_miss (b := zs)
  have hplace := head_place (b := zs) (miss := 5) (by decide)
  have hnsz := head_names (b := zs) (miss := 5) (by decide)
  obtain ⟨ns, hns⟩ : ∃ ns, (headD zs 5).1 = ns := ⟨_, rfl⟩
  obtain ⟨p0, hp0⟩ : ∃ p0, (headD zs 5).2.1 = p0 := ⟨_, rfl⟩
  obtain ⟨e0, he0⟩ : ∃ e0, (headD zs 5).2.2 = e0 := ⟨_, rfl⟩
  rw [hns, hp0, he0] at FH
  rw [hp0, he0] at hplace
  rw [hns] at hnsz
  rw [he0] at hmiss
  obtain ⟨m, hm⟩ : ∃ m, ns.length = m := ⟨_, rfl⟩
  rw [hm] at FH hnsz
  have HH := Lib.hid FH
  have HB0 := Lib.hid b0
  have HAL := Lib.hid hal
  have HM := Lib.hid hm
  by_cases hE : e0 = 0
  rotate_left
  · have h5 := hmiss hE
    have HT := Lib.hid (show decT zs = noTr by unfold decT recordsD; rw [he0, if_pos hE])
    have HDE := Lib.hid (show decE zs = e0 by
      unfold decE recordsD
      rw [he0, if_pos hE]
      show (if e0 = 13 then 0 else e0) = e0
      rw [← he0, h5]
      rfl)
    have he1 : ((e0 : Int) == 0) = false := by simp; omega
    clear FH b0 hal hns hp0 he0 h hmiss hplace h5 hm hlen
    go_enter Try.func16, Try.ntmps16
    go_wp2_with fail
    refine HH.out.mono ?_
    rintro e w1 ⟨A1, c1, rfl, -, hB1⟩
    have b1 := HB0.out.later hB1
    have r0 := b1.cell 0 rfl
    have r1 := b1.cell 1 rfl
    have q0 := b1.fz 0 rfl
    have q1 := b1.fz 1 rfl
    have z := b1.set 0 (.slice none 0 0) (by simp)
    have z0 := z.cell 0 rfl
    have z1 := (z.set 1 (.slice none 0 0) (by simp)).cell 1 rfl
    have HB1 := Lib.hid (HAL.out.trans (hB1.mono HAL.out.size))
    clear b1 z hB1
    go_wp2
    refine bodyPost_ret (v := .tuple #[.agg #[.slice none 0 0, .slice none 0 0], .int .i64 0, .int .i64 (e0 : Nat)]) (by simp [results, Try.results16, go_sem, z0, z1]) rfl ?_
    unfold GotDecN
    rw [HT.out, HDE.out]
    exact ⟨none, 0, none, 0, rfl, TrOk.none _ _, (fun a e => by cases e), (HB1.out.setCell (Nat.le_refl _) _).setCell (Nat.le_refl _) _⟩
  subst hE
  obtain ⟨hp9, hpn⟩ := hplace rfl
  rw [hlen] at hpn
  obtain ⟨R, hR⟩ : ∃ R, recsD (zs.drop p0) (m : Int) (n + 1) 0 0 [] = R := ⟨_, rfl⟩
  have hrec : recordsD zs = (⟨ns, R.1⟩, R.2) := by
    unfold recordsD
    rw [he0, if_neg (fun h => h rfl), hns, hp0, hlen, hm]
    have h7 : recsD zs (m : Int) (n + 1) p0 0 [] = R := (recsD_from zs (m : Int) p0 (n + 1) 0 0 []).trans hR
    rw [h7]
  have HT := Lib.hid (show decT zs = ⟨ns, R.1⟩ by unfold decT; rw [hrec])
  have HDE := Lib.hid (show decE zs = okE R.2 by unfold decE; rw [hrec]; rfl)
  have hsl0 := fun W => slice_from (P := Try.prog) 22 (by kernel_rfl) 1 (by kernel_rfl) A n c p0 hpn W
  have hrd := rd_from h hnc hpn (by omega)
  obtain ⟨A7, hA7⟩ : ∃ A7, fromAddr A c p0 1 = A7 := ⟨_, rfl⟩
  rw [hA7] at hrd
  have hsl : ∀ W, (Instr.slice 22 (.slice A n c) (some (.int .i64 (p0 : Int))) none none).run Try.prog W = .ok (.slice A7 (n - p0) (c - p0)) W := by rw [← hA7]; exact hsl0
  clear hsl0
  have HR := Lib.hid hrd
  have FR := fun W (hb : Below w.heap.size w W) => landRecords A7 (n - p0) (c - p0) (zs.drop p0) (m : Int) (n + 1) W (by omega) (by omega) (by omega) (by omega) (hrd.below hb)
  rw [hR] at FR
  have HF := Lib.hid FR
  have HNS := Lib.hid hnsz.2
  clear FR FH b0 hal hns hp0 he0 h hmiss hplace hm hlen hR hrec hA7 hrd hnsz
  go_enter Try.func16, Try.ntmps16
  go_wp2_with fail
  refine HH.out.mono ?_
  rintro e w1 ⟨NA, nc, rfl, hown1, hB1⟩
  obtain ⟨-, hstr, hncc, hncm⟩ := strs_own hown1
  have HNA := Lib.hid (show ∀ a, NA = some a → w.heap.size < a.block from fun a e => by
    obtain ⟨A', c', e1, -, -, -, h5⟩ := own_slice hown1
    injection e1 with e1
    subst e1
    have := (h5 a e).1
    omega)
  have HB1 := Lib.hid (HB0.out.later hB1)
  have HBE := Lib.hid (HAL.out.trans (hB1.mono HAL.out.size))
  have HS1 := Lib.hid hstr
  clear hown1 hB1 hstr HH HB0 HAL
  go_wp2_with fail
  refine (HF.out w1 HBE.out).mono ?_
  rintro e w2 ⟨EA, ec, rfl, hev, hec1, hec2, hB2⟩
  obtain ⟨ne, hne⟩ : ∃ ne, R.1.length = ne := ⟨_, rfl⟩
  have HNE := Lib.hid hne
  have hlt : w.heap.size < w1.heap.size := HB1.out.1
  have b2 := HB1.out.later hB2
  have r0 := b2.cell 0 rfl
  have r1 := b2.cell 1 rfl
  have q0 := b2.fz 0 rfl
  have q1 := b2.fz 1 rfl
  have z := b2.set 0 (.slice NA m nc) (by simp)
  have z0 := z.cell 0 rfl
  have z1 := (z.set 1 (.slice EA ne ec) (by simp)).cell 1 rfl
  have HO := Lib.hid (show TrOk (fun b => w.heap.size < b) w2 NA m nc EA ne ec ⟨ns, R.1⟩ from ⟨HM.out, hne, HS1.out.below hB2, (fun s hs => by have := HNS.out s hs; omega), hev.mono (fun b _ hb => by have : w1.heap.size ≤ b := hb; omega), ⟨by omega, hncm⟩, ⟨by omega, hec2⟩⟩)
  have HB2 := Lib.hid (HBE.out.trans (hB2.mono HBE.out.size))
  rw [hne]
  clear b2 z hev hB2 hne HS1 HB1
  go_wp2
  refine bodyPost_ret (v := .tuple #[.agg #[.slice NA m nc, .slice EA ne ec], .int .i64 (ne : Nat), .int .i64 (okE R.2 : Nat)]) (by simp [results, Try.results16, go_sem, z0, z1]) rfl ?_
  unfold GotDecN
  rw [HT.out, HDE.out]
  show ∃ NA nc EA ec, _ = Ending.returned (.tuple #[.agg #[.slice NA ns.length nc, .slice EA R.1.length ec], .int .i64 (R.1.length : Nat), .int .i64 (okE R.2 : Nat)]) ∧ TrOk (fun b => w.heap.size ≤ b) _ NA ns.length nc EA R.1.length ec ⟨ns, R.1⟩ ∧ _
  rw [HM.out, HNE.out]
  exact ⟨NA, nc, EA, ec, rfl, tr_setN HO.out HNA.out _ _, (fun a e => Nat.le_of_lt (HNA.out a e)), (HB2.out.setCell (Nat.le_refl _) _).setCell (Nat.le_refl _) _⟩
theorem landDecode (A : Option Addr) (n c : Nat) (zs : List Int) (w : World) (hnc : n ≤ c) (hc : c ≤ maxLen) (hn : n ≤ 58000000) (h : Rd .u8 w A n zs) :
    Calls Try.prog 16 #[.slice A n c] w (GotDec w zs) := (landDecodeN A n c zs w hnc hc hn h).mono fun _ _ h => h.any
end Go.Proofs.Ytbbjoffknoaoiaa.Log
