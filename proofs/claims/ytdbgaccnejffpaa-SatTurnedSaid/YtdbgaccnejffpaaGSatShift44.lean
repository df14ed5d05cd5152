/-
  The law SatTurned (stage 15). By an AI agent.
-/
import Derived.Test.YtdbgaccnejffpaaGSatShift1
import Derived.Test.YtdbgaccnejffpaaGSatShift42
import Derived.Test.YtdbgaccnejffpaaGSatShift43
import Derived.Test.YtdbgaccnejffpaaGSatShift35
import Derived.Test.YtdbgaccnejffpaaGSatShift37
import Derived.Test.YtdbgaccnejffpaaGSatShift41
namespace Go.Proofs.Ytdbgaccnejffpaa.Sat
open Go.RowKit Go.Proofs.Ytdbgaccnejffpaa.Ints Go.Proofs.Ytdbgaccnejffpaa.Mem Go.Proofs.Ytdbgaccnejffpaa.Src Go.Proofs.Ytdbgaccnejffpaa.Paths Go.Proofs.Ytdbgaccnejffpaa.Late Go.Proofs.Ytdbgaccnejffpaa.Trace
def backK (l : List Ev) (k : Nat) : List Ev := (List.range k).map (backE l)
theorem backK_next (l : List Ev) (k : Nat) : backK l (k + 1) = backK l k ++ [backE l k] := by
 unfold backK
 rw [List.range_succ, List.map_append]
 rfl
theorem ev_cells {w : World} {NA : Option Addr} {nn nc : Nat} {EA : Option Addr} {ne ec : Nat} {t : Tr} (h : TrOk Any w NA nn nc EA ne ec t) {i : Nat} (hi : i < ne) : ∃ (b off : Nat) (K : Option Addr) (c : Nat), EA = some ⟨b, off, none⟩ ∧ w.cell? ⟨b, off + i * 2, none⟩ = some (.int .u64 (t.events.getD i noEv).time) ∧
  w.cell? ⟨b, off + i * 2 + 1, none⟩ = some (.slice K (t.events.getD i noEv).ids.length c) ∧ EvOk w (t.events.getD i noEv) K c := by
 have he := h.elen
 obtain ⟨b, off, e, hc⟩ := h.evs (by omega)
 obtain ⟨x, hx⟩ : ∃ x, t.events[i]? = some x := ⟨_, List.getElem?_eq_getElem (by omega)⟩
 have hd : t.events.getD i noEv = x := by rw [List.getD_eq_getElem?_getD, hx]; rfl
 obtain ⟨h1, h2, K, c, h3, h4, h5, h6, -⟩ := hc i x hx
 refine ⟨b, off, K, c, e, ?_, ?_, ?_⟩
 ·rw [hd, Nat.mul_comm]; exact h1
 ·rw [hd, Nat.mul_comm]; exact h3
 ·rw [hd]; exact ⟨h2, h4, h5, h6⟩
theorem tb_turned {T : Tr} {L : List Tree.Nd} (hm : mayT T = true) (h0 : ∀ i, 0 ≤ (T.events.getD i noEv).time) (hL : Tree.mayL L = true) {n : Nat} (hn : T.events.length = n) {j : Nat} (hj : j < n) : tb (backT T) (turnI L (L.length - 1)) (n - 1 - j) = tb T L j := by
 have h1 := Tree.may_ne hL
 rw [tb_back hm (fun i _ => h0 i) (l := L) ((turn_ok hL (L.length - 1) (by omega)).2.2.2) (by omega), show T.events.length - 1 - (n - 1 - j) = j by omega]
theorem turn_form {L : List Tree.Nd} (h : Tree.formL L = true) : Tree.formL (turnI L (L.length - 1)) = true ∧ (turnI L (L.length - 1)).length ≤ L.length := by
 obtain ⟨h1, h2⟩ := form_root h
 have h3 := Tree.may_ne h1
 obtain ⟨g1, g2, -, -⟩ := turn_ok h1 (L.length - 1) (by omega)
 refine ⟨?_, turn_len h1 (by omega)⟩
 have hr : Tree.regKind (kindN L (L.length - 1)) = false := by
  have : 1 ≤ kindN L (L.length - 1) ∧ kindN L (L.length - 1) ≤ 17 := of_decide_eq_true h2
  exact decide_eq_false (by omega)
 rw [hr] at g2
 unfold Tree.formL
 rw [g1, Bool.true_and]
 obtain ⟨q1, q2⟩ := Tree.last_range g1
 have : ¬ (18 ≤ Tree.lastKind (turnI L (L.length - 1)) ∧ Tree.lastKind (turnI L (L.length - 1)) ≤ 22) := of_decide_eq_false g2
 exact decide_eq_true (by omega)
set_option maxHeartbeats 16000000 in
set_option maxRecDepth 100000 in
theorem lawTurnedS (start : Int) (A : Option Addr) (n c : Nat) (zs : List Int) (B : Option Addr) (m d : Nat) (ys : List Int) (w : World) (h0 : 0 ≤ start ∧ start ≤ 18446744073709551615) (hr : Rd .u16 w A n zs) (hc : n ≤ maxLen) (hr2 : Rd .u16 w B m ys) (hc2 : m ≤ maxLen) :
  Calls Try.prog 4 #[.int .u64 start, .slice A n c, .slice B m d] w fun e w' => e = .returned (.bool true) ∧ Below w.heap.size w w' := by
 obtain ⟨iE, hiE, hz0, hz1, hz2⟩ := info_parts infoEvent
 have HMK1 := Lib.hid (Trace.lawMake start A n c zs w h0 hr hc)
 have HMK2 := Lib.hid (fun W (hb : Below w.heap.size w W) => Tree.lawMake B m d ys false W (hr2.below hb) hc2)
 obtain ⟨T, hT⟩ : ∃ T, makeM start zs = T := ⟨_, rfl⟩
 obtain ⟨L, hL⟩ : ∃ L, Tree.makeL false ys = L := ⟨_, rfl⟩
 have HTM := Lib.hid (fun i => (show 0 ≤ (T.events.getD i noEv).time ∧ (T.events.getD i noEv).time ≤ 9223372036854775808 + 1125899906842624 * 60 by rw [← hT]; exact make_times h0.1 zs i))
 have HMT := Lib.hid (show mayT T = true by rw [← hT]; exact make_may zs (fun z hz => (wf_u16 (hr.all z hz)).1))
 have HST := Lib.hid (show TrSmall T by rw [← hT]; exact make_trsmall zs)
 have hl60 : T.events.length ≤ 60 := by rw [← hT]; exact (make_small start zs).1
 have HG := Lib.hid (show Tree.formL L = true ∧ L.length ≤ 100 from by
  have h9 := Tree.make_ok false ys (fun z hz => wf_u16 (hr2.all z hz))
  rw [hL] at h9
  exact ⟨h9.1.form, h9.2⟩)
 rw [hT] at HMK1
 rw [hL] at HMK2
 clear hT hL hr hc hr2 hc2 h0
 go_enter Try.func4, Try.ntmps4
 go_wp2_with fail
 refine (HMK1.out).mono ?_
 rintro e w1 ⟨NU, un, uc, EU, ue, uk, rfl, hTU, hb1⟩
 have D1 := Lib.hid hb1
 have HT1 := Lib.hid hTU
 have hue : ue ≤ 60 := by rw [← hTU.elen]; exact hl60
 have HL := Lib.hid hTU.elen
 clear hTU hb1
 go_wp2_with fail
 refine (HMK2.out _ D1.out).mono ?_
 rintro e w2 ⟨AL, cL, rfl, hNL, hcL, hcM, hb2⟩
 have D2 := Lib.hid (D1.out.trans (hb2.mono D1.out.size))
 have HT2 := Lib.hid (HT1.out.below hb2)
 obtain ⟨nl, hnl⟩ : ∃ nl, L.length = nl := ⟨_, rfl⟩
 rw [hnl] at hcL ⊢
 have hnl100 : nl ≤ 100 := by rw [← hnl]; exact HG.out.2
 obtain ⟨g, hg⟩ : ∃ g, w2.heap.size = g := ⟨_, rfl⟩
 obtain ⟨X, hX⟩ : ∃ X, w2.alloc (.cells #[.slice NU un uc, .slice EU ue uk] 27) = X := ⟨_, rfl⟩
 have h2X : Below w2.heap.size w2 X := by rw [← hX]; exact (Below.refl _ _).alloc (Nat.le_refl _) _
 have x0 : X.cell? ⟨g, 0, none⟩ = some (.slice NU un uc) := by rw [← hX, ← hg]; exact box_cell 0 _ rfl
 have x1 : X.cell? ⟨g, 1, none⟩ = some (.slice EU ue uk) := by rw [← hX, ← hg]; exact box_cell 1 _ rfl
 have D3 := Lib.hid (D2.out.trans (h2X.mono D2.out.size))
 have HT3 := Lib.hid (HT2.out.below h2X)
 have HN3X := Lib.hid (hNL.below h2X)
 have HX := Lib.hid hX
 have HNL := Lib.hid (And.intro hnl (And.intro hcL hcM))
 have hgX : g < X.heap.size := World.block_lt_of_cell? _ _ x0
 clear h2X hb2 hNL hcL hcM hX hnl
 go_wp2_with fail
 rw [HX.out]
 obtain ⟨gu, hgu⟩ : ∃ gu, X.heap.size = gu := ⟨_, rfl⟩
 obtain ⟨U, hU⟩ : ∃ U, X.alloc (.cells #[.slice NU un uc, .slice none 0 0] 27) = U := ⟨_, rfl⟩
 have hXU : Below X.heap.size X U := by rw [← hU]; exact (Below.refl _ _).alloc (Nat.le_refl _) _
 have HK0 := Lib.hid (show Blk U gu [.slice NU un uc, .slice none 0 0] from by rw [← hU, ← hgu]; exact Blk.new X _ _ _ rfl)
 have HB0 := Lib.hid hXU
 have HU := Lib.hid hU
 have HGU := Lib.hid hgu
 have HGU2 := Lib.hid (show g + 1 = gu from by rw [← hgu, ← HX.out, ← hg]; simp)
 have HX1 := Lib.hid (And.intro x0 x1)
 have HGX := Lib.hid (show g < gu by omega)
 clear hXU hU hgX
 go_wp2_with fail
 rw [HU.out, HGU2.out]
 go_loopw [11, 12, 27] (fun _ _ v wr => ∃ (k : Nat) (vE : Value) (σ : List SEv), v = .int .i64 ((k : Nat) : Int) ∧ k ≤ ue ∧ OwnEvs (fun b => b < gu) wr (gu + 1) vE σ ∧ σ.map (·.1) = backK T.events k ∧ Blk wr gu [.slice NU un uc, vE] ∧ Below X.heap.size X wr) (fun _ _ v _ => ue - (intOf v).toNat)
 case atStart => exact ⟨0, .slice none 0 0, [], rfl, Nat.zero_le _, OwnEvs.nil _ _ _, rfl, HK0.out, HB0.out⟩
 case round =>
  obtain ⟨k, vE, σ, rfl, hkn, hO, hσ, hK, hB⟩ := hrel
  have HO := Lib.hid hO
  have HK := Lib.hid hK
  have HB := Lib.hid hB
  have hsl : σ.length = k := by
   have := congrArg List.length hσ
   rw [List.length_map] at this
   rw [this]
   unfold backK
   rw [List.length_map, List.length_range]
  obtain ⟨EV, cV, hvE, hcV⟩ := own_sliceN hO.1
  rw [hsl] at hvE hcV
  subst hvE
  have HSL := Lib.hid (And.intro hsl hσ)
  by_cases hlt : k < ue
  ·obtain ⟨p, hp⟩ : ∃ p, ue - 1 - k = p := ⟨_, rfl⟩
   obtain ⟨eb, eo, KK, kc, hEU, q0, q1, hok⟩ := ev_cells HT3.out (show p < ue by omega)
   obtain ⟨eb2, eo2, K2, kc2, hEU2, r0, -, hok2⟩ := ev_cells HT3.out (show ue - 1 < ue by omega)
   subst hEU
   obtain ⟨rfl, rfl⟩ : eb = eb2 ∧ eo = eo2 := by
    injection hEU2 with h
    injection h with h1 h2 _
    exact ⟨h1, h2⟩
   clear hEU2
   have hmono := ev_mono HMT.out (show p ≤ ue - 1 by omega) (by rw [HL.out]; omega)
   have hbE : backE T.events k = ⟨(T.events.getD (ue - 1) noEv).time - (T.events.getD p noEv).time, (T.events.getD p noEv).ids⟩ := by
    unfold backE
    rw [HL.out, hp]
   obtain ⟨e1, he1⟩ : ∃ e, T.events.getD p noEv = e := ⟨_, rfl⟩
   obtain ⟨e2, he2⟩ : ∃ e, T.events.getD (ue - 1) noEv = e := ⟨_, rfl⟩
   rw [he1] at q0 q1 hok hmono hbE
   rw [he2] at r0 hok2 hmono hbE
   have hw1 := wf_u64 hok.1
   have hw2 := wf_u64 hok2.1
   obtain ⟨t1, ht1⟩ : ∃ t, e1.time = t := ⟨_, rfl⟩
   obtain ⟨t2, ht2⟩ : ∃ t, e2.time = t := ⟨_, rfl⟩
   obtain ⟨ni, hni⟩ : ∃ t, e1.ids.length = t := ⟨_, rfl⟩
   obtain ⟨td, htd⟩ : ∃ t, t2 - t1 = t := ⟨_, rfl⟩
   rw [ht1] at q0 hw1 hmono hbE
   rw [ht2] at r0 hw2 hmono hbE
   rw [hni] at q1
   rw [htd] at hbE
   have hsub : IntKind.u64.wrap (t2 - t1) = td := by rw [htd, IntKind.wrap_u64]; omega
   have hKid : KidOk (fun b => b < gu ∧ some b ≠ (Value.slice EV k cV).ownBlock) X (backE T.events k, KK, kc) := by
    rw [hbE]
    refine ⟨⟨by simp [Lit.wf, IntKind.min, IntKind.max, IntKind.signed, IntKind.bits]; omega, hok.2⟩, fun a ha h0 => ?_⟩
    obtain ⟨b, o, e, hc⟩ := Rd.cell hok.2.1 h0
    have ha : KK = some a := ha
    rw [ha] at e
    injection e with e
    subst e
    have h1 := World.block_lt_of_cell? _ _ (hc 0 h0)
    have h1 : b < X.heap.size := h1
    rw [HGU.out] at h1
    refine ⟨h1, fun x => ?_⟩
    have := (hO.1.lt b x.symm).1
    omega
   have HKD := Lib.hid hKid
   have HBE := Lib.hid (And.intro hbE hni)
   have x0 := below_cell hB HX1.out.1
   have x1 := below_cell hB HX1.out.2
   have y0 := below_cell hB q0
   have y1 := below_cell hB q1
   have y2 := below_cell hB r0
   have g1 := hK.cell 1 rfl
   have hpi : ((ue - 1 : Nat) : Int) - (k : Int) = (p : Int) := by omega
   have hui : (ue : Int) - 1 = ((ue - 1 : Nat) : Int) := by omega
   have hwp : IntKind.i64.wrap ((ue - 1 : Nat) : Int) = ((ue - 1 : Nat) : Int) := wrap_small _ (by omega)
   have hul : ((ue - 1 : Nat) : Int) < (ue : Int) := by omega
   obtain ⟨W5, hW5⟩ : ∃ W5, wr.alloc (.cells #[.int .u64 t1, .slice KK ni kc] 34) = W5 := ⟨_, rfl⟩
   have hb5 : Below wr.heap.size wr W5 := by rw [← hW5]; exact (Below.refl _ _).alloc (Nat.le_refl _) _
   have z0 : W5.cell? ⟨wr.heap.size, 0, none⟩ = some (.int .u64 t1) := by rw [← hW5]; exact box_cell 0 _ rfl
   have z1 : W5.cell? ⟨wr.heap.size, 1, none⟩ = some (.slice KK ni kc) := by rw [← hW5]; exact box_cell 1 _ rfl
   have HZ := Lib.hid (And.intro z0 z1)
   have HW5 := Lib.hid hW5
   have HO5 := Lib.hid (hO.below hb5)
   have HK5 := Lib.hid (hK.later hb5)
   have HB5 := Lib.hid (hB.trans (hb5.mono hB.size))
   have HS5 := Lib.hid (And.intro (below_cell hb5 x0) (And.intro (below_cell hb5 x1) (And.intro (below_cell hb5 y2) (below_cell hb5 g1))))
   have HQ0 := Lib.hid q0
   clear hO hK hB hKid hbE hni hok hok2 he1 he2 ht1 ht2 htd hmono q0 q1 r0 hb5 hW5 z0 z1 hp
   go_wp2_with fail
   rw [HW5.out]
   obtain ⟨z0, z1⟩ := HZ.out
   obtain ⟨s0, s1, s2, s3⟩ := HS5.out
   obtain ⟨V, hV⟩ : ∃ V, V = W5.drew := ⟨_, rfl⟩
   have HOV := Lib.hid (show OwnEvs (fun b => b < gu) V (gu + 1) (.slice EV k cV) σ from by rw [hV]; exact HO5.out.below (Below.refl _ _).drew)
   have HKV := Lib.hid (show Blk V gu [.slice NU un uc, .slice EV k cV] from by rw [hV]; exact HK5.out.later (Below.refl _ _).drew)
   have HBV := Lib.hid (show Below X.heap.size X V from by rw [hV]; exact HB5.out.drew)
   have HVS := Lib.hid (show wr.heap.size < V.heap.size from by rw [hV]; exact World.block_lt_of_cell? _ _ z0)
   have HROW := Lib.hid (fun b (h : some b = (Value.slice EV k cV).ownBlock) => HO.out.1.lt b h.symm)
   have HEB := Lib.hid (show eb < gu from by
    have h1 := World.block_lt_of_cell? _ _ HQ0.out
    rw [← HGU.out]; exact h1)
   refine Late.drew [18] (S := fun V => V.cell? ⟨gu, 1, none⟩ = some (.slice EV k cV) ∧ V.cell? ⟨g, 1, none⟩ = some (.slice (some ⟨eb, eo, none⟩) ue uk) ∧ V.cell? ⟨eb, eo + (ue - 1) * 2, none⟩ = some (.int .u64 t2) ∧ V.cell? ⟨wr.heap.size, 0, none⟩ = some (.int .u64 t1) ∧ V.cell? ⟨wr.heap.size, 1, none⟩ = some (.slice KK ni kc)) (by kernel_rfl) ⟨s3, s1, s2, z0, z1⟩ (fun hHeld => ?_)
   rw [← hV] at hHeld ⊢
   clear hV s0 s1 s2 s3 z0 z1
   refine ltOp 0 hHeld ?_
   refine ltOp 1 hHeld ?_
   refine ltOp 2 hHeld ?_
   refine ltOp 3 hHeld ?_
   refine ltOp 4 hHeld ?_
   refine ltOp 5 hHeld ?_
   refine ltOp 6 hHeld ?_
   refine ltOp 7 hHeld ?_
   refine ltOp 8 hHeld ?_
   refine ltOp 9 hHeld ?_
   refine ltOp 10 hHeld ?_
   refine ltOp 11 hHeld ?_
   refine ltOp 12 hHeld ?_
   refine ltOp 13 hHeld ?_
   refine ltOp 14 hHeld ?_
   refine ltCall 15 (fun Kt hKt => ?_)
   go_simp
   (have hal : Below V.heap.size V (V.alloc (.cells #[.int .u64 td, .slice KK ni kc] 34)) := (Below.refl _ _).alloc (Nat.le_refl _) _; have HAL := Lib.hid hal)
   refine hKt.out _ _ ?_ (fun hT => ?_)
   ·(exact ⟨below_cell hal hHeld.1, below_cell hal hHeld.2.1, below_cell hal hHeld.2.2.1, below_cell hal hHeld.2.2.2.1, below_cell hal hHeld.2.2.2.2⟩)
   clear hKt Kt hHeld
   have hHeld := hT
   clear hT
   try simp only [Act.put, tkA, tkB, tkC]
   refine ltCall 16 (fun Kt hKt => ?_)
   (refine step_append_ev (w := V.alloc (.cells #[.int .u64 td, .slice KK ni kc] 34)) rfl (.tmp 39) (.tmp 53) 25 rfl (gu + 1) iE _ Try.underlying25 hiE hz0 hz1 hz2 rfl (.slice EV k cV) σ (by rfl) (fun b => b < gu) (HOV.out.below HAL.out) (backE T.events k, KK, kc) (HKD.out.below (HBV.out.trans (HAL.out.mono HBV.out.size))) V.heap.size 34 (0, 0) (by rw [HBE.out.1]; show _ = some (Obj.cells #[.int .u64 td, .slice KK e1.ids.length kc] _ _); rw [HBE.out.2]; exact heap_alloc_new V _) (by rfl) (by rw [HSL.out.1]; omega) (by have := HKV.out.1; have := HAL.out.size; omega) ?_; intro v8 W8 own8 gr8 at8; obtain ⟨A8, c8, hv8, -⟩ := own_sliceN own8.1; rw [List.length_append, HSL.out.1, List.length_singleton] at hv8; subst hv8; have bk8 := (HKV.out.later HAL.out).grown gr8 (fun e => by have := (HROW.out _ e).1; omega); have c81 := bk8.cell 1 rfl; have f81 := bk8.fz 1 rfl)
   refine hKt.out _ _ ?_ (fun hT => ?_)
   ·(exact ⟨gr8.cell hHeld.1 (fun e => by have h9 : gu + 1 ≤ gu := (HROW.out _ e).1; omega), gr8.cell hHeld.2.1 (fun e => by have h9 : gu + 1 ≤ g := (HROW.out _ e).1; have := HGX.out; omega), gr8.cell hHeld.2.2.1 (fun e => by have h9 : gu + 1 ≤ eb := (HROW.out _ e).1; have := HEB.out; omega), gr8.cell hHeld.2.2.2.1 (fun e => Nat.lt_irrefl _ (HROW.out _ e).2), gr8.cell hHeld.2.2.2.2 (fun e => Nat.lt_irrefl _ (HROW.out _ e).2)⟩)
   clear hKt Kt hHeld
   have hHeld := hT
   clear hT
   try simp only [Act.put, tkA, tkB, tkC]
   refine ltOp 17 hHeld ?_
   refine ltLast 18 (fun Kt hKt => ?_)
   go_simp
   refine hKt.out _ _ trivial (fun hT => ?_)
   clear hKt Kt hHeld
   have hHeld := hT
   clear hT
   try simp only [Act.put, tkA, tkB, tkC]
   refine wpAnyH_done (by kernel_rfl) ?_ _
   have HO8 := Lib.hid own8
   have HK8 := Lib.hid bk8
   have HB8 := Lib.hid (((HBV.out.trans (HAL.out.mono HBV.out.size)).grown gr8 (by have := HBV.out.size; have := HAL.out.size; omega) (fun b hb => by have := (HROW.out b hb.symm).1; have := HGU.out; omega)).setCell (p := ⟨gu, 1, none⟩) (by rw [HGU.out]; exact Nat.le_refl _) (.slice A8 (k + 1) c8))
   clear hHeld own8 gr8 at8 bk8 c81 f81 hal
   go_wp2_with fail
   go_roundw
   case rel => exact ⟨k + 1, _, σ ++ [(backE T.events k, KK, kc)], by simp, by omega, own_set HO8.out (Nat.lt_succ_self _) (fun b hb => by have : b < gu := hb; omega), by rw [List.map_append, HSL.out.2, backK_next]; rfl, HK8.out.set 1 _ (by simp), HB8.out⟩
   case measure => (show ue - (k + 1) < ue - k; omega)
  ·obtain rfl : k = ue := by omega
   have HTU := Lib.hid (show TrOk Any wr NU un uc EV k cV (backT T) from by
    obtain ⟨A', c', e', hEv, -⟩ := (hO.mono (S' := Any) fun _ _ _ => trivial).reads fun _ _ _ => trivial
    injection e' with e1 e2 e3
    subst e1; subst e3
    rw [hσ] at hEv
    have ht := HT3.out
    refine ⟨ht.nlen, by rw [back_len]; exact HL.out, ht.names.below hB, ht.sizes, ?_, ht.ncap, ⟨hcV.1, hcV.2.1⟩⟩
    show Evs Any wr EV (backK T.events T.events.length)
    rw [HL.out]
    exact hEv)
   have y0 := below_cell hB HX1.out.1
   have y1 := below_cell hB HX1.out.2
   have u0 := hK.cell 0 rfl
   have u1 := hK.cell 1 rfl
   have hA1 := fun V (hb : Below wr.heap.size wr V) => landAll NU un uc EU k uk T AL nl cL L V ((HT3.out.below hB).below hb) ((HN3X.out.below hB).below hb) HNL.out.1 HNL.out.2 (by omega) (by omega)
   have hTW := fun V (hb : Below wr.heap.size wr V) => lawTurned AL nl cL L V ((HN3X.out.below hB).below hb) HNL.out.1 (form_root HG.out.1).1 HNL.out.2 (by omega)
   have hTF := turn_form HG.out.1
   rw [HNL.out.1] at hTF
   obtain ⟨nt, hnt⟩ : ∃ q, (turnI L (nl - 1)).length = q := ⟨_, rfl⟩
   have hA2 := fun (AT : Option Addr) (cT : Nat) (hcT : nt ≤ cT ∧ cT ≤ maxLen) V (hb : Below wr.heap.size wr V) (hN : Tree.Nodes Tree.Any V AT (turnI L (nl - 1))) => landAll NU un uc EV k cV (backT T) AT nt cT (turnI L (nl - 1)) V (HTU.out.below hb) hN hnt hcT (by have := hTF.2; omega) (by omega)
   rw [HMT.out, HG.out.1, Bool.and_true] at hA1
   rw [back_may HMT.out, hTF.1, Bool.and_true] at hA2
   have HA1 := Lib.hid hA1
   have HA2 := Lib.hid hA2
   have HTW := Lib.hid hTW
   have HNT := Lib.hid hnt
   have HTB := Lib.hid (fun j (hj : j < k) => (show tb (backT T) (turnI L (nl - 1)) (k - 1 - j) = tb T L j from by rw [← HNL.out.1]; exact tb_turned HMT.out (fun i => (HTM.out i).1) (form_root HG.out.1).1 HL.out hj))
   clear hO hK hB hσ hA1 hA2 hTW hTF hnt hcV
   go_wp2_with fail
   refine wp_region_held_drew (S := fun V => ((V.cell? ⟨g, 0, none⟩ = some (.slice NU un uc) ∧ V.cell? ⟨g, 1, none⟩ = some (.slice EU k uk)) ∧ V.cell? ⟨gu, 0, none⟩ = some (.slice NU un uc) ∧ V.cell? ⟨gu, 1, none⟩ = some (.slice EV k cV)) ∧ Below wr.heap.size wr V) (by kernel_rfl) ⟨⟨⟨y0, y1⟩, u0, u1⟩, (Below.refl _ _).drew⟩ (fun hHeld => ?_)
   refine tkOp 0 hHeld ?_
   refine tkOp 1 hHeld ?_
   refine tkOp 3 hHeld ?_
   refine tkOp 4 hHeld ?_
   refine tkCall 2 (fun Kt hKt => ?_)
   go_simp
   (go_at_call 8; refine (HA1.out _ hHeld.2).mono ?_; rintro e w5 ⟨hb5, he⟩; rw [if_pos trivial] at he; obtain ⟨b1, rfl, ho1⟩ := he; have hB5 := hHeld.2.trans (hb5.mono hHeld.2.size))
   refine hKt.out _ _ ?_ (fun hT => ?_)
   ·(exact ⟨keep4 (p := ⟨g, 0, none⟩) (q := ⟨g, 1, none⟩) (r := ⟨gu, 0, none⟩) (s := ⟨gu, 1, none⟩) hb5 hHeld.1, hB5⟩)
   clear hKt Kt hHeld
   have hHeld := hT
   clear hT
   try simp only [Act.put, tkA, tkB, tkC]
   refine tkCall 5 (fun Kt hKt => ?_)
   go_simp
   (go_at_call 11; refine (HTW.out _ hHeld.2).mono ?_; rintro e w6 ⟨AT, cT, rfl, hNT, hcT1, hcT2, hb6⟩; rw [HNT.out] at hcT1 ⊢; have hB6 := hHeld.2.trans (hb6.mono hHeld.2.size))
   refine hKt.out _ _ ?_ (fun hT => ?_)
   ·(exact ⟨keep4 (p := ⟨g, 0, none⟩) (q := ⟨g, 1, none⟩) (r := ⟨gu, 0, none⟩) (s := ⟨gu, 1, none⟩) hb6 hHeld.1, hB6⟩)
   clear hKt Kt hHeld
   have hHeld := hT
   clear hT
   try simp only [Act.put, tkA, tkB, tkC]
   refine tkCall 6 (fun Kt hKt => ?_)
   go_simp
   (go_at_call 8; refine (HA2.out AT cT ⟨hcT1, hcT2⟩ _ hHeld.2 hNT).mono ?_; rintro e w7 ⟨hb7, he⟩; rw [if_pos trivial] at he; obtain ⟨b2, rfl, ho2⟩ := he; have hB7 := hHeld.2.trans (hb7.mono hHeld.2.size))
   refine hKt.out _ _ ?_ (fun hT => ?_)
   ·(exact ⟨keep4 (p := ⟨g, 0, none⟩) (q := ⟨g, 1, none⟩) (r := ⟨gu, 0, none⟩) (s := ⟨gu, 1, none⟩) hb7 hHeld.1, hB7⟩)
   clear hKt Kt hHeld
   have hHeld := hT
   clear hT
   try simp only [Act.put, tkA, tkB, tkC]
   refine tkOp 7 hHeld ?_
   refine tkOp 8 hHeld ?_
   refine wpAnyH_done (by kernel_rfl) ?_ _
   have HB7 := Lib.hid hHeld.2
   have HO1 := Lib.hid ((ho1.below hb6).below hb7)
   have HO2 := Lib.hid ho2
   have HW6 := Lib.hid (show b1 < w6.heap.size ∧ wr.heap.size ≤ w6.heap.size from ⟨(ho1.below hb6).lt.2, hB6.size⟩)
   clear hHeld ho1 ho2 hb5 hb6 hb7 hB5 hB6 hB7 hNT y0 y1 u0 u1
   have hne : ¬ (k ≠ k) := fun h => h rfl
   go_wp2_with fail
   refine (revBools _ b2 k (tb (backT T) (turnI L (nl - 1))) w7 (by omega) HO2.out).mono ?_
   rintro e w8 ⟨rfl, ho8, hb8⟩
   have HO8 := Lib.hid ho8.rb
   have HO9 := Lib.hid (HO1.out.rb.same (hb8.block b1 HW6.out.1))
   have HB8 := Lib.hid (HB7.out.trans (hb8.mono HW6.out.2))
   clear ho8 hb8
   go_wp2_with fail
   refine (eqBools b1 0 k b2 0 k k (tb T L) _ (by omega) (fun j hj => by rw [Nat.zero_add]; exact HO9.out j hj) (fun j hj => by rw [Nat.zero_add, HO8.out j hj]; exact congrArg (fun b => some (Value.bool b)) (HTB.out j hj))).mono ?_
   rintro e w9 ⟨rfl, hb9⟩
   have HB9 := Lib.hid (HB8.out.trans (hb9.mono HB8.out.size))
   clear hb9
   go_wp2_with fail
   refine (awake _).mono ?_
   rintro e wa ⟨rfl, hba⟩
   have HBA := Lib.hid (HB9.out.trans (hba.mono HB9.out.size))
   clear hba
   go_wp2_with fail
   go_ret
   have h1 := D3.out.trans (HB.out.mono D3.out.size)
   exact ⟨rfl, h1.trans (HBA.out.mono h1.size)⟩
end Go.Proofs.Ytdbgaccnejffpaa.Sat
