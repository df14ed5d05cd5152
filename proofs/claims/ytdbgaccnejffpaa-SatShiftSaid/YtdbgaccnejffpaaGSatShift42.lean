/-
  The law SatShift (stage 15). By an AI agent.
  What the law SatTurned asks of traces, plain: told from the last point to the first (stage 15). By an AI agent.
  A node of a list that may be, in memory, with the places of its kids (stage 15). By an AI agent.
-/
import Derived.Test.YtdbgaccnejffpaaGSatShift37
import Derived.Test.YtdbgaccnejffpaaGSatShift35
import Derived.Test.YtdbgaccnejffpaaGSatShift41
import Derived.Test.YtdbgaccnejffpaaGSatShift20
namespace Go.Proofs.Ytdbgaccnejffpaa.Sat
open Go.RowKit Go.Proofs.Ytdbgaccnejffpaa.Ints Go.Proofs.Ytdbgaccnejffpaa.Mem Go.Proofs.Ytdbgaccnejffpaa.Src Go.Proofs.Ytdbgaccnejffpaa.Paths Go.Proofs.Ytdbgaccnejffpaa.Late Go.Proofs.Ytdbgaccnejffpaa.Trace
def lateK (d : Int) (k : Nat) (l : List Ev) : List Ev := (l.take k).map (laterE d) ++ l.drop k
theorem lateK_zero (d : Int) (l : List Ev) : lateK d 0 l = l := by unfold lateK; rw [List.take_zero, List.drop_zero]; rfl
theorem lateK_all (d : Int) (l : List Ev) {k : Nat} (h : l.length ≤ k) : lateK d k l = l.map (laterE d) := by
 unfold lateK
 rw [List.take_of_length_le h, List.drop_eq_nil_of_le h, List.append_nil]
theorem lateK_at (d : Int) (l : List Ev) {k : Nat} (h : k < l.length) : (lateK d k l)[k]? = some (l.getD k noEv) := by
 unfold lateK
 rw [List.getElem?_append_right (by rw [List.length_map, List.length_take]; omega), List.length_map, List.length_take, List.getElem?_drop, Nat.min_eq_left (by omega), Nat.sub_self, Nat.add_zero, List.getD_eq_getElem?_getD, List.getElem?_eq_getElem h]
 rfl
theorem lateK_set (d : Int) (l : List Ev) {k : Nat} (h : k < l.length) : (lateK d k l).set k (laterE d (l.getD k noEv)) = lateK d (k + 1) l := by
 have e : l.getD k noEv = l[k] := by rw [List.getD_eq_getElem?_getD, List.getElem?_eq_getElem h]; rfl
 unfold lateK
 rw [List.set_append_right _ _ (by rw [List.length_map, List.length_take]; omega), List.length_map, List.length_take, Nat.min_eq_left (by omega), Nat.sub_self, List.drop_eq_getElem_cons h, List.set_cons_zero, List.take_succ_eq_append_getElem h, List.map_append, List.append_assoc, e]
 rfl
structure ShR (w' : World) (B g gu : Nat) (t : Tr) (d : Int) (NB EB : Option Addr) (nn cN ne cE k : Nat) : Prop where
 names : w'.ownsRow B 9 1 (.slice NB nn cN) nn (t.names.map strS)
 nlt : ∀ b, (Value.slice NB nn cN).ownBlock = some b → b < g
 evs : ∃ σ, OwnEvs (fun b => g < b) w' (g + 1) (.slice EB ne cE) σ ∧ σ.map (·.1) = lateK d k t.events
 elt : ∀ b, (Value.slice EB ne cE).ownBlock = some b → b < gu
 c0 : w'.cell? ⟨gu, 0, none⟩ = some (.slice NB nn cN)
 c1 : w'.cell? ⟨gu, 1, none⟩ = some (.slice EB ne cE)
 hB : B ≤ g
theorem ShR.below {w w' : World} {B g gu : Nat} {t : Tr} {d : Int} {NB EB : Option Addr} {nn cN ne cE k : Nat} (h : ShR w B g gu t d NB EB nn cN ne cE k) (hb : Below w.heap.size w w') : ShR w' B g gu t d NB EB nn cN ne cE k := by
 obtain ⟨σ, h1, h2⟩ := h.evs
 exact ⟨below_row h.names hb, h.nlt, ⟨σ, h1.below hb, h2⟩, h.elt, below_cell hb h.c0, below_cell hb h.c1, h.hB⟩
theorem ShR.tr {w : World} {B g gu : Nat} {t : Tr} {d : Int} {NB EB : Option Addr} {nn cN ne cE k : Nat} (h : ShR w B g gu t d NB EB nn cN ne cE k) (hs : ∀ s ∈ t.names, s.length ≤ maxLen) (hk : t.events.length ≤ k) : TrOk Any w NB nn cN EB ne cE (laterT t d) := by
 obtain ⟨σ, h1, h2⟩ := h.evs
 rw [lateK_all d _ hk] at h2
 exact own_tr (t := laterT t d) h.names h1 h2 hs
theorem ShR.at {w : World} {B g gu : Nat} {t : Tr} {d : Int} {NB EB : Option Addr} {nn cN ne cE k : Nat} (h : ShR w B g gu t d NB EB nn cN ne cE k) (hk : k < t.events.length) (hne : t.events.length = ne) (hw : (Lit.int .u64 ((t.events.getD k noEv).time + d)).wf = true) :
  ∃ gE, EB = some ⟨gE, 0, none⟩ ∧ B < gE ∧ gE < gu ∧ ne ≤ cE ∧ w.cell? ⟨gE, k * 2, none⟩ = some (.int .u64 (t.events.getD k noEv).time) ∧ w.frozen? ⟨gE, k * 2, none⟩ = false ∧ (Lit.int .u64 (t.events.getD k noEv).time).wf = true ∧
   ShR (w.setCell ⟨gE, k * 2, none⟩ (.int .u64 ((t.events.getD k noEv).time + d))) B g gu t d NB (some ⟨gE, 0, none⟩) nn cN ne cE (k + 1) := by
 obtain ⟨σ, h1, h2⟩ := h.evs
 obtain ⟨gE, rfl, hg1, hg2⟩ := own_some h1 (by omega)
 have hgu := h.elt gE rfl
 have hkk : (σ.map (·.1))[k]? = some (t.events.getD k noEv) := by rw [h2]; exact lateK_at d _ hk
 obtain ⟨s, hs, hse⟩ : ∃ s, σ[k]? = some s ∧ s.1 = t.events.getD k noEv := by
  rw [List.getElem?_map] at hkk
  exact Option.map_eq_some_iff.1 hkk
 have hB := h.hB
 obtain ⟨x0, f0⟩ := h1.at hs 0 (by omega)
 rw [Nat.add_zero] at x0 f0
 have hk1 := h1.2 s (List.mem_of_getElem? hs)
 have h3 := h1.set (f := 0) (u := .int .u64 ((t.events.getD k noEv).time + d)) (s' := (laterE d (t.events.getD k noEv), s.2)) hs (by omega) (by rw [← hse]; rfl) ⟨⟨hw, by show Rd _ _ _ _ _ ∧ _; rw [← hse]; exact hk1.1.2⟩, by show ∀ a, _ → 0 < (t.events.getD k noEv).ids.length → _; rw [← hse]; exact hk1.2⟩
 rw [Nat.add_zero] at h3
 obtain ⟨A, c, e, -, hc, -⟩ := (h1.mono (S' := Any) fun _ _ _ => trivial).reads fun _ _ _ => trivial
 injection e with e1 e2 e3
 refine ⟨gE, rfl, by omega, hgu, by rw [e2, e3]; exact hc, by rw [x0, ← hse]; rfl, f0, by rw [← hse]; exact hk1.1.1, ?_⟩
 refine ⟨row_other h.names (fun e => by have := h.nlt gE e; omega), h.nlt, ⟨_, h3, ?_⟩, h.elt, ?_, ?_, hB⟩
 ·rw [List.map_set, h2, ← lateK_set d _ hk]
 ·exact (World.cell?_setCell_far w _ ⟨gu, 0, none⟩ _ (fun e => by have e : gE = gu := e; omega)).trans h.c0
 ·exact (World.cell?_setCell_far w _ ⟨gu, 1, none⟩ _ (fun e => by have e : gE = gu := e; omega)).trans h.c1
set_option maxHeartbeats 16000000 in
set_option maxRecDepth 100000 in
theorem lawShiftS (start by_ : Int) (A : Option Addr) (n c : Nat) (zs : List Int) (B : Option Addr) (m d : Nat) (ys : List Int) (w : World) (h0 : 0 ≤ start ∧ start ≤ 18446744073709551615) (hby : 0 ≤ by_ ∧ by_ ≤ 18446744073709551615) (hr : Rd .u16 w A n zs) (hc : n ≤ maxLen) (hr2 : Rd .u16 w B m ys) (hc2 : m ≤ maxLen) :
  Calls Try.prog 3 #[.int .u64 start, .int .u64 by_, .slice A n c, .slice B m d] w fun e w' => e = .returned (.bool true) ∧ Below w.heap.size w w' := by
 have HMK1 := Lib.hid (Trace.lawMake start A n c zs w h0 hr hc)
 have HMK2 := Lib.hid (fun W (hb : Below w.heap.size w W) => Tree.lawMake B m d ys false W (hr2.below hb) hc2)
 obtain ⟨T, hT⟩ : ∃ T, makeM start zs = T := ⟨_, rfl⟩
 obtain ⟨L, hL⟩ : ∃ L, Tree.makeL false ys = L := ⟨_, rfl⟩
 have HTM := Lib.hid (fun i => (show 0 ≤ (T.events.getD i noEv).time ∧ (T.events.getD i noEv).time ≤ 9223372036854775808 + 1125899906842624 * 60 by rw [← hT]; exact make_times h0.1 zs i))
 have HMT := Lib.hid (show mayT T = true by rw [← hT]; exact make_may zs (fun z hz => (wf_u16 (hr.all z hz)).1))
 have HST := Lib.hid (show TrSmall T by rw [← hT]; exact make_trsmall zs)
 have HNN := Lib.hid (show T.names.length = 3 by rw [← hT]; exact (make_small start zs).2)
 have hl60 : T.events.length ≤ 60 := by rw [← hT]; exact (make_small start zs).1
 have HG := Lib.hid (show Tree.formL L = true ∧ L.length ≤ 100 from by
  have h9 := Tree.make_ok false ys (fun z hz => wf_u16 (hr2.all z hz))
  rw [hL] at h9
  exact ⟨h9.1.form, h9.2⟩)
 rw [hT] at HMK1
 rw [hL] at HMK2
 obtain ⟨dd, hdd⟩ : ∃ dd, Int.tmod by_ 4611686018427387904 = dd := ⟨_, rfl⟩
 have hd0 : 0 ≤ dd ∧ dd < 4611686018427387904 := by
  rw [← hdd]
  exact ⟨Int.tmod_nonneg _ hby.1, Int.tmod_lt_of_pos _ (by decide)⟩
 have HD := Lib.hid hd0
 clear hT hL hr hc hr2 hc2 h0 hby hd0
 go_enter Try.func3, Try.ntmps3
 go_wp2_with fail
 refine (HMK1.out).mono ?_
 rintro e w1 ⟨NU, un, uc, EU, ue, uk, rfl, hTU, hb1⟩
 have D1 := Lib.hid hb1
 have HT1 := Lib.hid hTU
 have hue : ue ≤ 60 := by rw [← hTU.elen]; exact hl60
 have HL := Lib.hid hTU.elen
 have HUN := Lib.hid hTU.nlen
 have HN3 := Lib.hid (show un = 3 by rw [← hTU.nlen]; exact HNN.out)
 clear hTU hb1
 go_wp2_with fail
 refine (HMK2.out _ D1.out).mono ?_
 rintro e w2 ⟨AL, cL, rfl, hNL, hcL, hcM, hb2⟩
 have D2 := Lib.hid (D1.out.trans (hb2.mono D1.out.size))
 have HT2 := Lib.hid (HT1.out.below hb2)
 obtain ⟨nl, hnl⟩ : ∃ nl, L.length = nl := ⟨_, rfl⟩
 rw [hnl] at hcL ⊢
 have hnl100 : nl ≤ 100 := by rw [← hnl]; exact HG.out.2
 obtain ⟨g, hg⟩ : ∃ g, w2.heap.size = g := ⟨_, rfl⟩
 obtain ⟨X, hX⟩ : ∃ X, w2.alloc (.cells #[.slice NU un uc, .slice EU ue uk] 27) = X := ⟨_, rfl⟩
 have h2X : Below w2.heap.size w2 X := by rw [← hX]; exact (Below.refl _ _).alloc (Nat.le_refl _) _
 have x0 : X.cell? ⟨g, 0, none⟩ = some (.slice NU un uc) := by rw [← hX, ← hg]; exact box_cell 0 _ rfl
 have x1 : X.cell? ⟨g, 1, none⟩ = some (.slice EU ue uk) := by rw [← hX, ← hg]; exact box_cell 1 _ rfl
 have D3 := Lib.hid (D2.out.trans (h2X.mono D2.out.size))
 have HT3 := Lib.hid (HT2.out.below h2X)
 have HN3X := Lib.hid (hNL.below h2X)
 have HX := Lib.hid hX
 have HNL := Lib.hid (And.intro hnl (And.intro hcL hcM))
 have hgX : g < X.heap.size := World.block_lt_of_cell? _ _ x0
 clear h2X hb2 hNL hcL hcM hX hnl
 go_wp2_with fail
 rw [HX.out]
 refine (lawCopy NU un uc EU ue uk T X HT3.out (by rw [HN3.out]; decide) HST.out).mono ?_
 rintro e w3 ⟨gg, vN, v, σ, rfl, hgg, hRW, hb3⟩
 obtain ⟨NB, cN, rfl, -⟩ := own_sliceN hRW.names
 obtain ⟨EB, cE, rfl, -⟩ := own_sliceN hRW.evs.1
 have hsl : σ.length = ue := by
  have := congrArg List.length hRW.map
  rw [List.length_map] at this
  rw [this]; exact HL.out
 rw [hsl, HUN.out] at hRW ⊢
 obtain ⟨gu, hgu⟩ : ∃ gu, w3.heap.size = gu := ⟨_, rfl⟩
 obtain ⟨U, hU⟩ : ∃ U, w3.alloc (.cells #[.slice NB un cN, .slice EB ue cE] 27) = U := ⟨_, rfl⟩
 have h3U : Below w3.heap.size w3 U := by rw [← hU]; exact (Below.refl _ _).alloc (Nat.le_refl _) _
 have HS0 := Lib.hid (show ShR U (X.heap.size + 2) gg gu T dd NB EB un cN ue cE 0 from by
  refine ⟨below_row (by have := hRW.names; rwa [HUN.out] at this) h3U, hRW.nlt, ⟨σ, hRW.evs.below h3U, by rw [lateK_zero]; exact hRW.map⟩, fun b hb => by have := (hRW.evs.1.lt b hb).2; omega, ?_, ?_, hgg⟩
  ·rw [← hU, ← hgu]; exact box_cell 0 _ rfl
  ·rw [← hU, ← hgu]; exact box_cell 1 _ rfl)
 have HB0 := Lib.hid (hb3.trans (h3U.mono hb3.size))
 have HU := Lib.hid hU
 have HGU := Lib.hid hgu
 have HXG := Lib.hid (And.intro x0 (And.intro x1 hgX))
 have hdd0 : ¬ (dd < 0) := by have := HD.out; omega
 clear hRW hb3 h3U hU hgu hsl x0 x1 hgX hgg
 go_wp2_with fail
 rw [HU.out, HGU.out]
 go_loopw [12, 24] (fun _ v wr => ∃ k : Nat, v = .int .i64 ((k : Nat) : Int) ∧ k ≤ ue ∧ ShR wr (X.heap.size + 2) gg gu T dd NB EB un cN ue cE k ∧ Below X.heap.size X wr) (fun _ v _ => ue - (intOf v).toNat)
 case atStart => exact ⟨0, rfl, Nat.zero_le _, HS0.out, HB0.out⟩
 case round =>
  obtain ⟨k, rfl, hkn, hS, hB⟩ := hrel
  have HS := Lib.hid hS
  have HB := Lib.hid hB
  by_cases hlt : k < ue
  ·have htm := HTM.out k
   have hdw := HD.out
   obtain ⟨gE, hE, hg1, hg2, hnc, x, f, hwf, hnext⟩ := hS.at (by have := HL.out; omega) HL.out (by obtain ⟨q, hq⟩ : ∃ q, (T.events.getD k noEv).time = q := ⟨_, rfl⟩; rw [hq] at htm ⊢; simp [Lit.wf, IntKind.min, IntKind.max, IntKind.signed, IntKind.bits]; omega)
   subst hE
   obtain ⟨tm, htm2⟩ : ∃ tm, (T.events.getD k noEv).time = tm := ⟨_, rfl⟩
   rw [htm2] at x hnext htm
   obtain ⟨z, hz⟩ : ∃ z, tm + dd = z := ⟨_, rfl⟩
   rw [hz] at hnext
   have hw1 : IntKind.u64.wrap (tm + dd) = z := by rw [hz, IntKind.wrap_u64]; omega
   have c1 := hS.c1
   have hki : ((k : Nat) : Int) < ((ue : Nat) : Int) := by omega
   have HN := Lib.hid hnext
   have HBN := Lib.hid (hB.setCell (p := ⟨gE, k * 2, none⟩) (show X.heap.size ≤ gE by omega) (.int .u64 z))
   clear hS hB hnext hwf htm htm2 hz hg1 hg2 hnc hdw
   go_wp2_with fail
   go_roundw
   case rel => exact ⟨k + 1, by simp, by omega, HN.out, HBN.out⟩
   case measure => (show ue - (k + 1) < ue - k; omega)
  ·obtain rfl : k = ue := by omega
   have HTU := Lib.hid (fun V (hb : Below wr.heap.size wr V) => (hS.below hb).tr HT3.out.sizes (Nat.le_of_eq HL.out))
   have y0 := below_cell hB HXG.out.1
   have y1 := below_cell hB HXG.out.2.1
   have u0 := hS.c0
   have u1 := hS.c1
   have hA1 := landAll NU un uc EU k uk T AL nl cL L wr (HT3.out.below hB) (HN3X.out.below hB) HNL.out.1 HNL.out.2 (by omega) (by omega)
   have hA2 := fun V (hb : Below wr.heap.size wr V) => landAll NB un cN EB k cE (laterT T dd) AL nl cL L V (HTU.out V hb) ((HN3X.out.below hB).below hb) HNL.out.1 HNL.out.2 (by omega) (by omega)
   rw [HMT.out, HG.out.1, Bool.and_true] at hA1
   rw [later_may HMT.out, HG.out.1, Bool.and_true] at hA2
   have HA1 := Lib.hid hA1
   have HA2 := Lib.hid hA2
   clear hS hB hA1 hA2
   go_wp2_with fail
   refine HA1.out.mono ?_
   rintro e w5 ⟨hb5, he⟩
   rw [if_pos trivial] at he
   obtain ⟨b1, rfl, ho1⟩ := he
   have z0 := below_cell hb5 y0
   have z1 := below_cell hb5 y1
   have v0 := below_cell hb5 u0
   have v1 := below_cell hb5 u1
   have HO1 := Lib.hid ho1.rb
   have HB5 := Lib.hid hb5
   have hlat := fun j (hj : j < k) => tb_later HMT.out HD.out.1 (fun i _ => (HTM.out i).1) (show j < T.events.length by rw [HL.out]; exact hj) L
   have HLT := Lib.hid hlat
   clear hb5 ho1 y0 y1 u0 u1 hlat
   go_wp2_with fail
   refine (HA2.out _ HB5.out).mono ?_
   rintro e w6 ⟨hb6, he⟩
   rw [if_pos trivial] at he
   obtain ⟨b2, rfl, ho2⟩ := he
   have HB6 := Lib.hid (HB5.out.trans (hb6.mono HB5.out.size))
   have HO6 := Lib.hid (HO1.out.below hb6)
   have HO2 := Lib.hid ho2.rb
   clear hb6 ho2 z0 z1 v0 v1
   go_wp2_with fail
   refine (eqBools b1 0 k b2 0 k k (tb T L) _ (by omega) (fun j hj => by rw [Nat.zero_add]; exact HO6.out j hj) (fun j hj => by rw [Nat.zero_add, HO2.out j hj, HLT.out j hj])).mono ?_
   rintro e w7 ⟨rfl, hb7⟩
   have HB7 := Lib.hid (HB6.out.trans (hb7.mono HB6.out.size))
   clear hb7
   go_wp2_with fail
   refine (awake _).mono ?_
   rintro e w8 ⟨rfl, hb8⟩
   have HB8 := Lib.hid (HB7.out.trans (hb8.mono HB7.out.size))
   clear hb8
   go_wp2_with fail
   go_ret
   have h1 := D3.out.trans (HB.out.mono D3.out.size)
   exact ⟨rfl, h1.trans (HB8.out.mono h1.size)⟩
end Go.Proofs.Ytdbgaccnejffpaa.Sat

namespace Go.Proofs.Ytdbgaccnejffpaa.Sat
open Go.RowKit Go.Proofs.Ytdbgaccnejffpaa.Ints Go.Proofs.Ytdbgaccnejffpaa.Mem Go.Proofs.Ytdbgaccnejffpaa.Src Go.Proofs.Ytdbgaccnejffpaa.Paths Go.Proofs.Ytdbgaccnejffpaa.Late Go.Proofs.Ytdbgaccnejffpaa.Trace
def backE (l : List Ev) (i : Nat) : Ev := ⟨(l.getD (l.length - 1) noEv).time - (l.getD (l.length - 1 - i) noEv).time, (l.getD (l.length - 1 - i) noEv).ids⟩
def backT (t : Tr) : Tr := ⟨t.names, (List.range t.events.length).map (backE t.events)⟩
theorem back_len (t : Tr) : (backT t).events.length = t.events.length := by
 show ((List.range t.events.length).map (backE t.events)).length = _
 rw [List.length_map, List.length_range]
theorem back_getD (t : Tr) {i : Nat} (hi : i < t.events.length) : (backT t).events.getD i noEv = backE t.events i := by
 show ((List.range t.events.length).map (backE t.events)).getD i noEv = _
 rw [List.getD_eq_getElem?_getD, List.getElem?_map, List.getElem?_range hi]
 rfl
theorem ev_mono {t : Tr} (h : mayT t = true) {i j : Nat} (hij : i ≤ j) (hj : j < t.events.length) : (t.events.getD i noEv).time ≤ (t.events.getD j noEv).time := by
 have hm := ((mayT_iff t).1 h).2
 rw [evsOk_iff] at hm
 induction j with
 | zero => rw [show i = 0 by omega]; exact Int.le_refl _
 | succ j ih =>
  rcases Nat.lt_or_ge i (j + 1) with hlt | hge
  ·have h1 := ih (by omega) (by omega)
   have h2 := (hm (j + 1) hj).2 (by omega)
   rw [Nat.add_sub_cancel] at h2
   exact Int.le_trans h1 h2
  ·rw [show i = j + 1 by omega]; exact Int.le_refl _
theorem back_may {t : Tr} (h : mayT t = true) : mayT (backT t) = true := by
 have hm := (mayT_iff t).1 h
 rw [mayT_iff]
 refine ⟨hm.1, ?_⟩
 rw [evsOk_iff]
 intro i hi
 have hi : i < (backT t).events.length := hi
 rw [back_len] at hi
 unfold EvGood
 rw [back_getD t hi]
 refine ⟨(((evsOk_iff _ _).1 hm.2) (t.events.length - 1 - i) (by omega)).1, fun h0 => ?_⟩
 rw [back_getD t (by omega)]
 have := ev_mono h (show t.events.length - 1 - i ≤ t.events.length - 1 - (i - 1) by omega) (by omega)
 show (t.events.getD (t.events.length - 1) noEv).time - (t.events.getD (t.events.length - 1 - (i - 1)) noEv).time ≤ (t.events.getD (t.events.length - 1) noEv).time - (t.events.getD (t.events.length - 1 - i) noEv).time
 omega
theorem tb_back {t : Tr} (h : mayT t = true) (h0 : ∀ i, i < t.events.length → 0 ≤ (t.events.getD i noEv).time) {l l' : List Tree.Nd} (hl : foOf l' = turnF (foOf l)) {j : Nat} (hj : j < t.events.length) : tb (backT t) l' j = tb t l (t.events.length - 1 - j) := by
 have hbl := back_len t
 rw [Bool.eq_iff_iff, tb_iff, tb_iff, hl]
 refine sem_turn (T := tmOf t) (T' := tmOf (backT t)) (n := t.events.length) rfl hbl (fun lo up x y hxy hy => ?_) (fun s i hi => ?_) (foOf l) j j hj hj
 ·unfold Tm.near tmOf
  show Ival.hasS lo up ((((backT t).events.getD y noEv).time).toNat - (((backT t).events.getD x noEv).time).toNat) = true ↔ Ival.hasS lo up (((t.events.getD (t.events.length - 1 - x) noEv).time).toNat - ((t.events.getD (t.events.length - 1 - y) noEv).time).toNat) = true
  rw [back_getD t hy, back_getD t (by omega)]
  have e1 := h0 (t.events.length - 1 - x) (by omega)
  have e2 := h0 (t.events.length - 1 - y) (by omega)
  have m1 := ev_mono h (show t.events.length - 1 - y ≤ t.events.length - 1 - x by omega) (by omega)
  have m2 := ev_mono h (show t.events.length - 1 - x ≤ t.events.length - 1 by omega) (by omega)
  have e3 : ((backE t.events y).time).toNat - ((backE t.events x).time).toNat = ((t.events.getD (t.events.length - 1 - x) noEv).time).toNat - ((t.events.getD (t.events.length - 1 - y) noEv).time).toNat := by
   unfold backE
   show ((t.events.getD (t.events.length - 1) noEv).time - (t.events.getD (t.events.length - 1 - y) noEv).time).toNat - ((t.events.getD (t.events.length - 1) noEv).time - (t.events.getD (t.events.length - 1 - x) noEv).time).toNat = _
   omega
  rw [e3]
 ·show holdsT (backT t) ((i : Nat) : Int) s = true ↔ holdsT t ((t.events.length - 1 - i : Nat) : Int) s = true
  unfold holdsT
  rw [h, back_may h, hbl, Int.toNat_natCast, Int.toNat_natCast, back_getD t hi, decide_eq_true (show (0 : Int) ≤ (i : Int) ∧ (i : Int) < (t.events.length : Int) by omega), decide_eq_true (show (0 : Int) ≤ ((t.events.length - 1 - i : Nat) : Int) ∧ ((t.events.length - 1 - i : Nat) : Int) < (t.events.length : Int) by omega)]
  exact Iff.rfl
end Go.Proofs.Ytdbgaccnejffpaa.Sat

namespace Go.Proofs.Ytdbgaccnejffpaa.Sat
open Go.RowKit Go.Proofs.Ytdbgaccnejffpaa.Ints Go.Proofs.Ytdbgaccnejffpaa.Mem Go.Proofs.Ytdbgaccnejffpaa.Src Go.Proofs.Ytdbgaccnejffpaa.Paths Go.Proofs.Ytdbgaccnejffpaa.Late Go.Proofs.Ytdbgaccnejffpaa.Trace
structure NC (w : World) (l : List Tree.Nd) (b off k : Nat) (nd : Tree.Nd) (K : Option Addr) (m c : Nat) : Prop where
 hk : l[k]? = some nd
 len : nd.kids.length = m
 arity : m = Tree.kidc nd.kind
 ok : Tree.NodeOk w nd K c
 x0 : w.cell? ⟨b, off + k * 5, none⟩ = some (.int .i64 nd.kind)
 x1 : w.cell? ⟨b, off + k * 5 + 1, none⟩ = some (.string nd.name)
 x2 : w.cell? ⟨b, off + k * 5 + 2, none⟩ = some (.int .i64 nd.lo)
 x3 : w.cell? ⟨b, off + k * 5 + 3, none⟩ = some (.int .i64 nd.hi)
 x4 : w.cell? ⟨b, off + k * 5 + 4, none⟩ = some (.slice K m c)
 kids : ∀ j, j < m → ∃ b o, K = some ⟨b, o, none⟩ ∧ w.cell? ⟨b, o + j, none⟩ = some (.int .i64 ((kidN l k j : Nat) : Int)) ∧ kidN l k j < k
theorem node_cells {w : World} {A : Option Addr} {l : List Tree.Nd} (hN : Tree.Nodes Tree.Any w A l) (hm : Tree.mayL l = true) {k : Nat} (hk : k < l.length) : ∃ (b off : Nat) (nd : Tree.Nd) (K : Option Addr) (m c : Nat), A = some ⟨b, off, none⟩ ∧ NC w l b off k nd K m c := by
 obtain ⟨b, off, e, hns⟩ := hN (by omega)
 obtain ⟨nd, hnd⟩ : ∃ nd, l[k]? = some nd := ⟨_, List.getElem?_eq_getElem hk⟩
 obtain ⟨x0, x1, x2, x3, s0, s2, s3, s1, K, cK, x4, xr, hc, hcm, -⟩ := hns k nd hnd
 rw [Nat.mul_comm 5 k] at x0 x1 x2 x3 x4
 obtain ⟨st, hO, hz, hl, -, -⟩ := node_over hm hnd
 have hlen : nd.kids.length = Tree.kidc nd.kind := by rw [hz]; unfold Tree.zints; rw [List.length_map, hl]
 refine ⟨b, off, nd, K, nd.kids.length, cK, e, hnd, rfl, hlen, ⟨s0, s2, s3, s1, xr, hc, hcm⟩, x0, x1, x2, x3, x4, fun j hj => ?_⟩
 obtain ⟨Kb, ko, rfl, hcs⟩ := Rd.cell xr (by omega)
 have hkd := kind_of hnd
 have hlt : kidN l k j < k := by
  rcases kidc_ways nd.kind with e | e | e
  ·omega
  ·obtain rfl : j = 0 := by omega
   exact kidN_one hm hk (by rw [hkd]; exact e)
  ·obtain ⟨a1, a2⟩ := kidN_two hm hk (by rw [hkd]; exact e)
   obtain rfl | rfl : j = 0 ∨ j = 1 := by omega
   ·exact a1
   ·exact a2
 refine ⟨Kb, ko, rfl, ?_, hlt⟩
 have h2 := hcs j hj
 have hz0 : 0 ≤ nd.kids[j]?.getD 0 := by
  rw [hz]
  unfold Tree.zints
  rw [List.getElem?_map]
  cases st[j]? with
  | none => exact Int.le_refl _
  | some z => exact Int.natCast_nonneg z
 have hkN : ((kidN l k j : Nat) : Int) = nd.kids[j]?.getD 0 := by
  unfold kidN
  rw [hnd]
  show (((nd.kids[j]?.getD 0).toNat : Nat) : Int) = _
  omega
 rw [hkN]
 exact h2
theorem NC.below {w w' : World} {l : List Tree.Nd} {b off k : Nat} {nd : Tree.Nd} {K : Option Addr} {m c : Nat} (h : NC w l b off k nd K m c) (hb : Below w.heap.size w w') : NC w' l b off k nd K m c :=
 ⟨h.hk, h.len, h.arity, ⟨h.ok.1, h.ok.2.1, h.ok.2.2.1, h.ok.2.2.2.1, Rd.below h.ok.2.2.2.2.1 hb, h.ok.2.2.2.2.2⟩, below_cell hb h.x0, below_cell hb h.x1, below_cell hb h.x2, below_cell hb h.x3, below_cell hb h.x4, fun j hj => by
  obtain ⟨b, o, e, h1, h2⟩ := h.kids j hj
  exact ⟨b, o, e, below_cell hb h1, h2⟩⟩
end Go.Proofs.Ytdbgaccnejffpaa.Sat
