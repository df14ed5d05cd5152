/-
  What the law's Make makes (stage 8), and its walk. By an AI agent.
-/
import Derived.Test.YtdbgaccnejffpaaGreatDoorGSatDual1
import Derived.Test.YtdbgaccnejffpaaGreatDoorGSatDual38
import Derived.Test.YtdbgaccnejffpaaGreatDoorGSatDual37
import Derived.Test.YtdbgaccnejffpaaGreatDoorGSatDual2
namespace Go.Proofs.YtdbgaccnejffpaaGreatDoor.Trace
open Go.RowKit Go.Proofs.YtdbgaccnejffpaaGreatDoor.Ints Go.Proofs.YtdbgaccnejffpaaGreatDoor.Mem
def stepM (n : Int) : Int := if 65000 ≤ n then 1125899906842624 else if n / 32 % 32 = 31 then 3000 else n / 8 % 4
def timeUp (start : Int) (ns : List Int) (k : Nat) : Int := min start 9223372036854775808 + ((ns.take k).map stepM).sum
def evM (start : Int) (ns : List Int) (i : Nat) : Ev := ⟨timeUp start ns (i + 1), idsM (ns.getD i 0 % 8).toNat⟩
def evsUp (start : Int) (ns : List Int) (k : Nat) : List Ev := (List.range k).map (evM start ns)
def makeM (start : Int) (ns : List Int) : Tr := ⟨[[112], [113], [114]], evsUp start ns (min ns.length 60)⟩
theorem evsUp_len (start : Int) (ns : List Int) (k : Nat) : (evsUp start ns k).length = k := by simp [evsUp]
theorem evsUp_next (start : Int) (ns : List Int) (k : Nat) : evsUp start ns (k + 1) = evsUp start ns k ++ [evM start ns k] := by simp [evsUp, List.range_succ]
theorem evsUp_at (start : Int) (ns : List Int) (k i : Nat) (hi : i < k) : (evsUp start ns k).getD i noEv = evM start ns i := by simp [evsUp, List.getD, hi]
theorem time_next {start : Int} {ns : List Int} {k : Nat} (hk : k < ns.length) : timeUp start ns (k + 1) = timeUp start ns k + stepM (ns.getD k 0) := by
 unfold timeUp
 rw [List.take_succ_eq_append_getElem hk, List.map_append, List.sum_append]
 have e : ns.getD k 0 = ns[k] := by simp [List.getD, hk]
 rw [e]
 simp only [List.map_cons, List.map_nil, List.sum_cons, List.sum_nil]
 omega
theorem step_bounds (n : Int) : 0 ≤ stepM n ∧ stepM n ≤ 1125899906842624 := by
 unfold stepM
 split
 ·omega
 ·split <;> omega
theorem time_bounds {start : Int} (h0 : 0 ≤ start) (ns : List Int) : ∀ k, k ≤ ns.length → 0 ≤ timeUp start ns k ∧ timeUp start ns k ≤ 9223372036854775808 + 1125899906842624 * k := by
 intro k
 induction k with
 | zero => intro _; unfold timeUp; simp; omega
 | succ k ih =>
  intro hk
  have h1 := ih (by omega)
  have h2 := step_bounds (ns.getD k 0)
  rw [time_next (by omega)]
  omega
theorem make_small (start : Int) (ns : List Int) : (makeM start ns).events.length ≤ 60 ∧ (makeM start ns).names.length = 3 := by
 refine ⟨?_, rfl⟩
 show (evsUp _ _ _).length ≤ 60
 rw [evsUp_len]
 omega
theorem idsM_mod (n : Int) : (n % 8).toNat < 8 := by omega
theorem make_may {start : Int} (ns : List Int) (_hn : ∀ z ∈ ns, 0 ≤ z) : mayT (makeM start ns) = true := by
 rw [mayT_iff]
 refine ⟨show namesOk [[112], [113], [114]] = true by decide +kernel, (evsOk_iff _ _).2 fun i hi => ?_⟩
 change i < (evsUp _ _ _).length at hi
 rw [evsUp_len] at hi
 show EvGood (evsUp _ _ _) 3 i
 unfold EvGood
 rw [evsUp_at _ _ _ _ hi]
 refine ⟨ids_ok _ (idsM_mod _), fun h0 => ?_⟩
 rw [evsUp_at _ _ _ _ (by omega)]
 show timeUp start ns (i - 1 + 1) ≤ timeUp start ns (i + 1)
 rw [show i - 1 + 1 = i by omega, time_next (by omega)]
 have := step_bounds (ns.getD i 0)
 omega
abbrev wM0 (w : World) : World := (w.alloc (.cells #[.slice none 0 0, .slice none 0 0] 28)).alloc (.cells #[.string { data := #[112] }, .string { data := #[113] }, .string { data := #[114] }] 9)
theorem wM0_size (w : World) : (wM0 w).heap.size = w.heap.size + 2 := by simp [wM0]
abbrev New3 (w : World) : Nat → Prop := fun b => w.heap.size + 3 ≤ b
theorem wrap_u16 {z : Int} (h0 : 0 ≤ z) (h1 : z ≤ 65535) : IntKind.u16.wrap z = z := by
 simp only [IntKind.wrap, IntKind.bits, IntKind.signed]; simp; omega
theorem wrap_u64 {z : Int} (h0 : 0 ≤ z) (h1 : z ≤ 65535) : IntKind.u64.wrap z = z := by
 simp only [IntKind.wrap, IntKind.bits, IntKind.signed]; simp; omega
theorem size_one (w : World) (o : Obj) : w.heap.size ≤ (w.alloc o).heap.size := by simp
theorem own_set {S : Nat → Prop} {W : World} {base g k : Nat} {v u : Value} {σ : List SEv} (h : OwnEvs S W base v σ) (hg : g < base) (hS : ∀ b, S b → b ≠ g := by intro b hb; show b ≠ _; have : _ ≤ b := hb; omega) : OwnEvs S (W.setCell ⟨g, k, none⟩ u) base v σ :=
 h.keep (row := some g) ⟨rfl, rfl, rfl, by simp, fun i _ hne => Below.heap_setCell W ⟨g, k, none⟩ u i (fun e => hne (by rw [e]))⟩ (.inr fun e => by have := (h.1.lt g e).1; omega) (fun b hb e => hS b hb (by injection e))
theorem ids_evs {w V W : World} {v : Value} {I : Option Addr} {c q qi : Nat} {T : Int} (hq : (idsM q).length = qi) (hw : (Lit.int .u64 T).wf = true) (hn : ∀ g, v.ownBlock = some g → g < V.heap.size) (hv : w.heap.size + 3 ≤ V.heap.size)
  (rd : Rd .i64 W I qi (idsM q)) (h1 : qi ≤ c) (h2 : c ≤ maxLen) (hb : Below V.heap.size V W) (hnew : ∀ a, I = some a → V.heap.size ≤ a.block) :
  Evs (fun b => New3 w b ∧ some b ≠ v.ownBlock) (W.alloc (.cells #[.int .u64 T, .slice I qi c] 47)) (some ⟨W.heap.size, 0, none⟩) [⟨T, idsM q⟩] := by
 subst hq
 have hs := hb.size
 refine box_evs (x := ⟨T, idsM q⟩) (heap_alloc_new W _) ⟨hw, rd.alloc _, h1, h2⟩ ⟨by show _ ≤ _; omega, fun e => by have := hn _ e.symm; omega⟩ fun a e _ => ⟨by show _ ≤ _; have := hnew a e; omega, fun e2 => by have := hn _ e2.symm; have := hnew a e; omega⟩
theorem make_end {w wr : World} {v : Value} {σ : List SEv} {evs : List Ev} (hown : OwnEvs (New3 w) wr (w.heap.size + 3) v σ) (hl : σ.map (·.1) = evs) (hB : Below (w.heap.size + 2) (wM0 w) wr) :
  ∃ A n c, v = .slice A n c ∧ ∀ u0 u1, TrOk Any ((wr.setCell ⟨w.heap.size, 0, none⟩ u0).setCell ⟨w.heap.size, 1, none⟩ u1) (some ⟨w.heap.size + 1, 0, none⟩) 3 3 A n c ⟨[[112], [113], [114]], evs⟩ ∧ Below w.heap.size w ((wr.setCell ⟨w.heap.size, 0, none⟩ u0).setCell ⟨w.heap.size, 1, none⟩ u1) := by
 obtain ⟨A, c, e, h1, h2, h3⟩ := hown.reads fun b hb _ => hb
 have hold : Below w.heap.size w wr := (((Below.refl _ w).alloc (Nat.le_refl _) _).alloc (by simp) _).trans (hB.mono (by omega))
 refine ⟨A, σ.length, c, e, fun u0 u1 => ⟨⟨rfl, ?_, fun _ => ⟨w.heap.size + 1, 0, rfl, fun j s hs => ?_⟩, fun s hs => ?_, ?_, ⟨Nat.le_refl _, by decide⟩, h2, h3⟩, ?_⟩⟩
 ·rw [← hl, List.length_map]
 ·rw [set2_cell wr w.heap.size u0 u1 _ (by show w.heap.size + 1 ≠ w.heap.size; omega), hB.cell (p := ⟨w.heap.size + 1, 0 + j, none⟩) (by show w.heap.size + 1 < w.heap.size + 2; omega)]
  have e1 : (w.alloc (.cells #[.slice none 0 0, .slice none 0 0] 28)).heap.size = w.heap.size + 1 := by simp
  have hn := heap_alloc_new (w.alloc (.cells #[.slice none 0 0, .slice none 0 0] 28)) (.cells #[.string { data := #[112] }, .string { data := #[113] }, .string { data := #[114] }] 9)
  rw [e1] at hn
  rw [cell_of_row _ (w.heap.size + 1) (0 + j) _ 9 (0, 0) hn]
  match j, hs with
  | 0, hs => simp at hs; subst hs; rfl
  | 1, hs => simp at hs; subst hs; rfl
  | 2, hs => simp at hs; subst hs; rfl
  | j + 3, hs => simp at hs
 ·simp only [List.mem_cons, List.not_mem_nil, or_false] at hs
  rcases hs with rfl | rfl | rfl <;> decide
 ·rw [hl] at h1
  exact (h1.keep (w' := (wr.setCell ⟨w.heap.size, 0, none⟩ u0).setCell ⟨w.heap.size, 1, none⟩ u1) fun p u hp hc => by rw [set2_cell wr w.heap.size u0 u1 p (by have : _ ≤ p.block := hp; omega)]; exact hc).any
 ·exact (hold.setCell (p := ⟨w.heap.size, 0, none⟩) (Nat.le_refl _) _).setCell (p := ⟨w.heap.size, 1, none⟩) (Nat.le_refl _) _
set_option maxHeartbeats 16000000 in
set_option maxRecDepth 100000 in
theorem lawMake (start : Int) (A : Option Addr) (n c : Nat) (zs : List Int) (w : World) (h0 : 0 ≤ start ∧ start ≤ 18446744073709551615) (h : Rd .u16 w A n zs) (hc : n ≤ maxLen) :
  Calls Tryz.prog 5 #[.int .u64 start, .slice A n c] w (GotTr w (makeM start zs)) := by
 obtain ⟨iE, hiE, hz0, hz1, hz2⟩ := info_parts infoEvent
 have hm : maxLen = 9223372036854775807 := rfl
 have hni : (n : Int) ≤ 9223372036854775807 := by omega
 obtain ⟨hs1, hs2⟩ := h0
 have hmin : min start 9223372036854775808 = timeUp start zs 0 := by unfold timeUp; simp
 have HD := Lib.hid h
 have HL := Lib.hid h.len
 have HTB := Lib.hid (time_bounds hs1 zs)
 obtain ⟨T0, hT0⟩ : ∃ T0, timeUp start zs 0 = T0 := ⟨_, rfl⟩
 rw [hT0] at hmin
 have HT0 := Lib.hid hT0
 clear h hc hT0
 go_enter Tryz.func5, Tryz.ntmps5
 go_wp2
 clear hmin
 go_loopw [6, 16] (fun u i wr => ∃ (k : Nat) (v : Value) (σ : List SEv), k ≤ n ∧ k ≤ 60 ∧ i = .int .i64 k ∧ u = .int .u64 (timeUp start zs k) ∧ Hid (OwnEvs (New3 w) wr (w.heap.size + 3) v σ ∧ σ.map (·.1) = evsUp start zs k ∧ Blk wr (w.heap.size + 1 + 1) [.slice (some ⟨w.heap.size + 1, 0, none⟩) 3 3, v] ∧ Below (w.heap.size + 2) (wM0 w) wr)) (fun _ i _ => n - (intOf i).toNat)
 case atStart => exact ⟨0, .slice none 0 0, [], Nat.zero_le _, Nat.zero_le _, rfl, by rw [HT0.out], OwnEvs.nil _ _ _, rfl, by
  have := Blk.new (wM0 w) #[.slice (some ⟨w.heap.size + 1, 0, none⟩) 3 3, .slice none 0 0] 28 _ rfl
  rw [wM0_size] at this
  exact this, (Below.refl _ _).alloc (by rw [wM0_size]; omega) _⟩
 case round =>
  obtain ⟨k, v, σ, hk, hk60, rfl, rfl, HR⟩ := hrel
  by_cases hkn : k < n
  ·have hkn' : (k : Int) < (n : Int) := by omega
   obtain ⟨b, off, e, hcell⟩ := HD.out.cell (by omega)
   have x0w := hcell k hkn
   have hzw := wf_u16 (HD.out.wf k hkn)
   have hgk : zs.getD k 0 = zs[k]?.getD 0 := by simp [List.getD]
   obtain ⟨z, hz⟩ : ∃ z, zs[k]?.getD 0 = z := ⟨_, rfl⟩
   rw [hz] at x0w hzw hgk
   have hold : Below w.heap.size w wr := (((Below.refl _ w).alloc (Nat.le_refl _) _).alloc (by simp) _).trans (HR.out.2.2.2.mono (by omega))
   have x0 := below_cell hold x0w
   subst e
   obtain ⟨hz0', hz1'⟩ := hzw
   have HGK := Lib.hid hgk
   clear hold x0w hcell hz hgk
   by_cases h60 : k = 60
   ·have h60' : ((k : Int) == 60) = true := by rw [h60]; rfl
    have HMK := Lib.hid (show makeM start zs = ⟨[[112], [113], [114]], evsUp start zs k⟩ by unfold makeM; rw [show min zs.length 60 = k by have := HL.out; omega])
    clear h60
    obtain ⟨Av, nv, cv, ev, hend⟩ := make_end HR.out.1 HR.out.2.1 HR.out.2.2.2
    subst ev
    have b1 := HR.out.2.2.1
    have t0 := b1.cell 0 rfl
    have t1 := b1.cell 1 rfl
    have hres := (((Blk.new w #[.slice none 0 0, .slice none 0 0] 28 _ rfl).alloc (.cells #[.string { data := #[112] }, .string { data := #[113] }, .string { data := #[114] }] 9)).below HR.out.2.2.2 (by omega))
    have r0 := hres.cell 0 rfl
    have r1 := hres.cell 1 rfl
    have z0 := hres.fz 0 rfl
    have z1 := hres.fz 1 rfl
    have HND := Lib.hid hend
    clear hend hres b1
    go_wp2
    refine bodyPost_ret (v := .agg #[.slice (some ⟨w.heap.size + 1, 0, none⟩) 3 3, .slice Av nv cv]) (by simp [results, Tryz.results5, go_sem, r0, r1]) rfl ?_
    rw [HMK.out]
    exact ⟨_, _, _, _, _, _, rfl, (HND.out _ _).1, (HND.out _ _).2⟩
   ·have h60' : ((k : Int) == 60) = false := by simp; omega
    obtain ⟨T, hT⟩ : ∃ T, timeUp start zs k = T := ⟨_, rfl⟩
    have hTB := HTB.out k (by have := HL.out; omega)
    rw [hT] at hTB ⊢
    obtain ⟨hT1, hT2⟩ := hTB
    obtain ⟨q, hq0⟩ : ∃ q, (z % 8).toNat = q := ⟨_, rfl⟩
    have hq : q < 8 := by omega
    have hM8 : z.tmod 8 = (q : Int) := by rw [Int.tmod_eq_emod_of_nonneg hz0']; omega
    have hevm : evM start zs k = ⟨timeUp start zs (k + 1), idsM q⟩ := by unfold evM; rw [HGK.out, hq0]
    have htn0 : timeUp start zs (k + 1) = T + stepM z := by rw [time_next (by have := HL.out; omega), hT, HGK.out]
    have hTB1 := HTB.out (k + 1) (by have := HL.out; omega)
    clear hq0
    by_cases h65 : 65000 ≤ z
    ·have h65' : decide (z ≥ 65000) = true := decide_eq_true h65
     obtain ⟨T', hT'⟩ : ∃ T', T + 1125899906842624 = T' := ⟨_, rfl⟩
     have htn : timeUp start zs (k + 1) = T' := by rw [htn0, ← hT']; unfold stepM; rw [if_pos h65]
     have hevw : (Lit.int .u64 T').wf = true ∧ evM start zs k = ⟨T', idsM q⟩ := ⟨by rw [htn] at hTB1; simp [Lit.wf, IntKind.min, IntKind.max, IntKind.signed, IntKind.bits]; omega, by rw [hevm, htn]⟩
     have hHT : True := trivial
     clear hTB1 htn0 hevm
     go_wp2
     try rw [hT']
     clear hT' hT1 hT2 h65'
     have HTN := Lib.hid htn
     have HEV := Lib.hid hevw
     clear hT hHT htn hevw
     obtain ⟨V, hV⟩ : ∃ V, V = wr.drew := ⟨_, rfl⟩
     have HROW := Lib.hid (show OwnEvs (New3 w) V (w.heap.size + 3) v σ ∧ σ.map (·.1) = evsUp start zs k by rw [hV]; exact ⟨HR.out.1, HR.out.2.1⟩)
     have HBK := Lib.hid (show Blk V (w.heap.size + 1 + 1) [.slice (some ⟨w.heap.size + 1, 0, none⟩) 3 3, v] by rw [hV]; exact HR.out.2.2.1)
     have HBW := Lib.hid (show Below (w.heap.size + 2) (wM0 w) V by rw [hV]; exact HR.out.2.2.2.drew)
     have HV3 := Lib.hid (show w.heap.size + 3 ≤ V.heap.size by have := HBK.out.1; omega)
     have HID := Lib.hid (fun W => lawIds q hq W)
     have HQ8 := Lib.hid hq
     have HN60 := Lib.hid h60
     have HK60 := Lib.hid hk60
     obtain ⟨qi, hqi⟩ : ∃ qi, (idsM q).length = qi := ⟨_, rfl⟩
     have HQI := Lib.hid hqi
     clear hq hqi h60
     refine wp_region_held_drew (S := fun _ => True) (by kernel_rfl) trivial (fun hHeld => ?_)
     rw [← hV]
     clear hV HR
     refine tkOp 0 hHeld ?_
     refine tkOp 2 hHeld ?_
     refine tkOp 3 hHeld ?_
     refine tkOp 4 hHeld ?_
     refine wpAnyH_ready (rs := [1, 5]) (by kernel_rfl) (by simp) ?_
     refine AllReadyH.cons (o := ?oi12) ?hi12 (fun K0 hK => ?_) (AllReadyH.cons (o := ?oj12) ?hj12 (fun K0 hK => ?_) AllReadyH.nil)
     case hi12 => (simp only [List.getElem?_toArray, List.getElem?_cons_succ, List.getElem?_cons_zero]; rfl)
     case hj12 => (simp only [List.getElem?_toArray, List.getElem?_cons_succ, List.getElem?_cons_zero]; rfl)
     ·have l1 := HBK.out.cell 1 rfl
      go_simp
      refine hK.out _ _ trivial (fun hHeld2 => ?_)
      clear hK K0 hHeld
      have hHeld := hHeld2
      clear hHeld2
      try simp only [Act.put, List.setIfInBounds_toArray, List.set_cons_zero, List.set_cons_succ]
      clear l1
      refine wpAnyH_ready (rs := [5]) (by kernel_rfl) (by simp) ?_
      refine AllReadyH.cons (o := ?oi1) ?hi1 (fun K0 hK => ?_) AllReadyH.nil
      case hi1 => (simp only [List.getElem?_toArray, List.getElem?_cons_succ, List.getElem?_cons_zero]; rfl)
      go_simp
      go_at_call 14
      refine (HID.out V).mono ?_
      rintro e W5 ⟨I, cI, rfl, hI1, hI2, hI3, hb5, hI4⟩
      rw [HQI.out] at hI1 hI2 ⊢
      refine hK.out _ _ trivial (fun hHeld2 => ?_)
      clear hK K0 hHeld
      have hHeld := hHeld2
      clear hHeld2
      try simp only [Act.put, List.setIfInBounds_toArray, List.set_cons_zero, List.set_cons_succ]
      have ki := ids_evs (w := w) HQI.out HEV.out.1 (fun g hg => (HROW.out.1.1.lt g hg).2) HV3.out hI1 hI2 hI3 hb5 hI4
      have bk5 := HBK.out.later hb5
      clear hI1 hI2 hI3 hI4
      refine tkOp 6 hHeld ?_
      refine wpAnyH_ready (rs := [7]) (by kernel_rfl) (by simp) ?_
      refine AllReadyH.cons (o := ?oi2) ?hi2 (fun K0 hK => ?_) AllReadyH.nil
      case hi2 => (simp only [List.getElem?_toArray, List.getElem?_cons_succ, List.getElem?_cons_zero]; rfl)
      go_simp
      refine hK.out _ _ trivial (fun hHeld2 => ?_)
      clear hK K0 hHeld
      have hHeld := hHeld2
      clear hHeld2
      try simp only [Act.put, List.setIfInBounds_toArray, List.set_cons_zero, List.set_cons_succ]
      have bk7 := bk5.alloc (.cells #[.int .u64 T', .slice I qi cI] 47)
      refine wpAnyH_ready (rs := [8]) (by kernel_rfl) (by simp) ?_
      refine AllReadyH.cons (o := ?oi4) ?hi4 (fun K0 hK => ?_) AllReadyH.nil
      case hi4 => (simp only [List.getElem?_toArray, List.getElem?_cons_succ, List.getElem?_cons_zero]; rfl)
      refine step_append_evs rfl (.tmp 39) (.tmp 45) 26 rfl (w.heap.size + 3) iE _ Tryz.underlying26 hiE hz0 hz1 hz2 rfl _ _ (by rfl) (New3 w) ((HROW.out.1.below hb5).below ((Below.refl _ W5).alloc (Nat.le_refl _) (.cells #[.int .u64 T', .slice I qi cI] 47))) _ 1 _ [(⟨T', idsM q⟩ : Ev)] (by rfl) (by rfl) ki (by have := HK60.out; have h1 := congrArg List.length HROW.out.2; rw [List.length_map, evsUp_len] at h1; omega) (Nat.le_trans HV3.out (Nat.le_trans hb5.size (size_one _ _))) ?_
      intro v8 W8 σ8 e8 own8 gr8 at8
      obtain ⟨A8, c8, ev8, -⟩ := own_sliceN own8.1
      obtain ⟨n8, hn8⟩ : ∃ n8, (σ ++ σ8).length = n8 := ⟨_, rfl⟩
      rw [hn8] at ev8
      subst ev8
      refine hK.out _ _ trivial (fun hHeld2 => ?_)
      clear hK K0 hHeld
      have hHeld := hHeld2
      clear hHeld2
      try simp only [Act.put, List.setIfInBounds_toArray, List.set_cons_zero, List.set_cons_succ]
      have bk8 := bk7.grown gr8 (fun e => by have := (HROW.out.1.1.lt _ e.symm).1; omega)
      have c81 := bk8.cell 1 rfl
      have f81 := bk8.fz 1 rfl
      refine tkOp 9 hHeld ?_
      refine wpAnyH_ready (rs := [10]) (by kernel_rfl) (by simp) ?_
      refine AllReadyH.cons (o := ?oi3) ?hi3 (fun K0 hK => ?_) AllReadyH.nil
      case hi3 => (simp only [List.getElem?_toArray, List.getElem?_cons_succ, List.getElem?_cons_zero]; rfl)
      go_simp
      refine hK.out _ _ trivial (fun hHeld2 => ?_)
      clear hK K0 hHeld
      have hHeld := hHeld2
      clear hHeld2
      try simp only [Act.put, List.setIfInBounds_toArray, List.set_cons_zero, List.set_cons_succ]
      refine wpAnyH_done (by kernel_rfl) ?_ _
      clear hHeld c81 f81
      go_wp2
      go_roundw
      case rel => exact ⟨k + 1, _, σ ++ σ8, by omega, by have := HN60.out; omega, by go_num, by rw [HTN.out], own_set own8 (by omega), by rw [List.map_append, e8, HROW.out.2, evsUp_next, HEV.out.2], bk8.set 1 _ (by simp), (((HBW.out.trans (hb5.mono (by have := HV3.out; omega))).alloc (Nat.le_trans (by have := HV3.out; omega) hb5.size) _).grown gr8 (Nat.le_trans (by have := HV3.out; omega) (Nat.le_trans hb5.size (size_one _ _))) (fun g hg => by have := (HROW.out.1.1.lt g hg).1; omega)).setCell (p := ⟨w.heap.size + 1 + 1, 1, none⟩) (Nat.le_refl _) _⟩
      case measure => simp [intOf]; omega
     ·go_simp
      go_at_call 14
      refine (HID.out V).mono ?_
      rintro e W5 ⟨I, cI, rfl, hI1, hI2, hI3, hb5, hI4⟩
      rw [HQI.out] at hI1 hI2 ⊢
      refine hK.out _ _ trivial (fun hHeld2 => ?_)
      clear hK K0 hHeld
      have hHeld := hHeld2
      clear hHeld2
      try simp only [Act.put, List.setIfInBounds_toArray, List.set_cons_zero, List.set_cons_succ]
      have ki := ids_evs (w := w) HQI.out HEV.out.1 (fun g hg => (HROW.out.1.1.lt g hg).2) HV3.out hI1 hI2 hI3 hb5 hI4
      have bk5 := HBK.out.later hb5
      clear hI1 hI2 hI3 hI4
      refine tkOp 6 hHeld ?_
      refine wpAnyH_ready (rs := [1, 7]) (by kernel_rfl) (by simp) ?_
      refine AllReadyH.cons (o := ?oi11) ?hi11 (fun K0 hK => ?_) (AllReadyH.cons (o := ?oj11) ?hj11 (fun K0 hK => ?_) AllReadyH.nil)
      case hi11 => (simp only [List.getElem?_toArray, List.getElem?_cons_succ, List.getElem?_cons_zero]; rfl)
      case hj11 => (simp only [List.getElem?_toArray, List.getElem?_cons_succ, List.getElem?_cons_zero]; rfl)
      ·have l1 := bk5.cell 1 rfl
       go_simp
       refine hK.out _ _ trivial (fun hHeld2 => ?_)
       clear hK K0 hHeld
       have hHeld := hHeld2
       clear hHeld2
       try simp only [Act.put, List.setIfInBounds_toArray, List.set_cons_zero, List.set_cons_succ]
       clear l1
       refine wpAnyH_ready (rs := [7]) (by kernel_rfl) (by simp) ?_
       refine AllReadyH.cons (o := ?oi5) ?hi5 (fun K0 hK => ?_) AllReadyH.nil
       case hi5 => (simp only [List.getElem?_toArray, List.getElem?_cons_succ, List.getElem?_cons_zero]; rfl)
       go_simp
       refine hK.out _ _ trivial (fun hHeld2 => ?_)
       clear hK K0 hHeld
       have hHeld := hHeld2
       clear hHeld2
       try simp only [Act.put, List.setIfInBounds_toArray, List.set_cons_zero, List.set_cons_succ]
       have bk7 := bk5.alloc (.cells #[.int .u64 T', .slice I qi cI] 47)
       refine wpAnyH_ready (rs := [8]) (by kernel_rfl) (by simp) ?_
       refine AllReadyH.cons (o := ?oi7) ?hi7 (fun K0 hK => ?_) AllReadyH.nil
       case hi7 => (simp only [List.getElem?_toArray, List.getElem?_cons_succ, List.getElem?_cons_zero]; rfl)
       refine step_append_evs rfl (.tmp 39) (.tmp 45) 26 rfl (w.heap.size + 3) iE _ Tryz.underlying26 hiE hz0 hz1 hz2 rfl _ _ (by rfl) (New3 w) ((HROW.out.1.below hb5).below ((Below.refl _ W5).alloc (Nat.le_refl _) (.cells #[.int .u64 T', .slice I qi cI] 47))) _ 1 _ [(⟨T', idsM q⟩ : Ev)] (by rfl) (by rfl) ki (by have := HK60.out; have h1 := congrArg List.length HROW.out.2; rw [List.length_map, evsUp_len] at h1; omega) (Nat.le_trans HV3.out (Nat.le_trans hb5.size (size_one _ _))) ?_
       intro v8 W8 σ8 e8 own8 gr8 at8
       obtain ⟨A8, c8, ev8, -⟩ := own_sliceN own8.1
       obtain ⟨n8, hn8⟩ : ∃ n8, (σ ++ σ8).length = n8 := ⟨_, rfl⟩
       rw [hn8] at ev8
       subst ev8
       refine hK.out _ _ trivial (fun hHeld2 => ?_)
       clear hK K0 hHeld
       have hHeld := hHeld2
       clear hHeld2
       try simp only [Act.put, List.setIfInBounds_toArray, List.set_cons_zero, List.set_cons_succ]
       have bk8 := bk7.grown gr8 (fun e => by have := (HROW.out.1.1.lt _ e.symm).1; omega)
       have c81 := bk8.cell 1 rfl
       have f81 := bk8.fz 1 rfl
       refine tkOp 9 hHeld ?_
       refine wpAnyH_ready (rs := [10]) (by kernel_rfl) (by simp) ?_
       refine AllReadyH.cons (o := ?oi6) ?hi6 (fun K0 hK => ?_) AllReadyH.nil
       case hi6 => (simp only [List.getElem?_toArray, List.getElem?_cons_succ, List.getElem?_cons_zero]; rfl)
       go_simp
       refine hK.out _ _ trivial (fun hHeld2 => ?_)
       clear hK K0 hHeld
       have hHeld := hHeld2
       clear hHeld2
       try simp only [Act.put, List.setIfInBounds_toArray, List.set_cons_zero, List.set_cons_succ]
       refine wpAnyH_done (by kernel_rfl) ?_ _
       clear hHeld c81 f81
       go_wp2
       go_roundw
       case rel => exact ⟨k + 1, _, σ ++ σ8, by omega, by have := HN60.out; omega, by go_num, by rw [HTN.out], own_set own8 (by omega), by rw [List.map_append, e8, HROW.out.2, evsUp_next, HEV.out.2], bk8.set 1 _ (by simp), (((HBW.out.trans (hb5.mono (by have := HV3.out; omega))).alloc (Nat.le_trans (by have := HV3.out; omega) hb5.size) _).grown gr8 (Nat.le_trans (by have := HV3.out; omega) (Nat.le_trans hb5.size (size_one _ _))) (fun g hg => by have := (HROW.out.1.1.lt g hg).1; omega)).setCell (p := ⟨w.heap.size + 1 + 1, 1, none⟩) (Nat.le_refl _) _⟩
       case measure => simp [intOf]; omega
      ·go_simp
       refine hK.out _ _ trivial (fun hHeld2 => ?_)
       clear hK K0 hHeld
       have hHeld := hHeld2
       clear hHeld2
       try simp only [Act.put, List.setIfInBounds_toArray, List.set_cons_zero, List.set_cons_succ]
       have bk7 := bk5.alloc (.cells #[.int .u64 T', .slice I qi cI] 47)
       refine wpAnyH_ready (rs := [1]) (by kernel_rfl) (by simp) ?_
       refine AllReadyH.cons (o := ?oi8) ?hi8 (fun K0 hK => ?_) AllReadyH.nil
       case hi8 => (simp only [List.getElem?_toArray, List.getElem?_cons_succ, List.getElem?_cons_zero]; rfl)
       have l1 := bk7.cell 1 rfl
       go_simp
       refine hK.out _ _ trivial (fun hHeld2 => ?_)
       clear hK K0 hHeld
       have hHeld := hHeld2
       clear hHeld2
       try simp only [Act.put, List.setIfInBounds_toArray, List.set_cons_zero, List.set_cons_succ]
       clear l1
       refine wpAnyH_ready (rs := [8]) (by kernel_rfl) (by simp) ?_
       refine AllReadyH.cons (o := ?oi10) ?hi10 (fun K0 hK => ?_) AllReadyH.nil
       case hi10 => (simp only [List.getElem?_toArray, List.getElem?_cons_succ, List.getElem?_cons_zero]; rfl)
       refine step_append_evs rfl (.tmp 39) (.tmp 45) 26 rfl (w.heap.size + 3) iE _ Tryz.underlying26 hiE hz0 hz1 hz2 rfl _ _ (by rfl) (New3 w) ((HROW.out.1.below hb5).below ((Below.refl _ W5).alloc (Nat.le_refl _) (.cells #[.int .u64 T', .slice I qi cI] 47))) _ 1 _ [(⟨T', idsM q⟩ : Ev)] (by rfl) (by rfl) ki (by have := HK60.out; have h1 := congrArg List.length HROW.out.2; rw [List.length_map, evsUp_len] at h1; omega) (Nat.le_trans HV3.out (Nat.le_trans hb5.size (size_one _ _))) ?_
       intro v8 W8 σ8 e8 own8 gr8 at8
       obtain ⟨A8, c8, ev8, -⟩ := own_sliceN own8.1
       obtain ⟨n8, hn8⟩ : ∃ n8, (σ ++ σ8).length = n8 := ⟨_, rfl⟩
       rw [hn8] at ev8
       subst ev8
       refine hK.out _ _ trivial (fun hHeld2 => ?_)
       clear hK K0 hHeld
       have hHeld := hHeld2
       clear hHeld2
       try simp only [Act.put, List.setIfInBounds_toArray, List.set_cons_zero, List.set_cons_succ]
       have bk8 := bk7.grown gr8 (fun e => by have := (HROW.out.1.1.lt _ e.symm).1; omega)
       have c81 := bk8.cell 1 rfl
       have f81 := bk8.fz 1 rfl
       refine tkOp 9 hHeld ?_
       refine wpAnyH_ready (rs := [10]) (by kernel_rfl) (by simp) ?_
       refine AllReadyH.cons (o := ?oi9) ?hi9 (fun K0 hK => ?_) AllReadyH.nil
       case hi9 => (simp only [List.getElem?_toArray, List.getElem?_cons_succ, List.getElem?_cons_zero]; rfl)
       go_simp
       refine hK.out _ _ trivial (fun hHeld2 => ?_)
       clear hK K0 hHeld
       have hHeld := hHeld2
       clear hHeld2
       try simp only [Act.put, List.setIfInBounds_toArray, List.set_cons_zero, List.set_cons_succ]
       refine wpAnyH_done (by kernel_rfl) ?_ _
       clear hHeld c81 f81
       go_wp2
       go_roundw
       case rel => exact ⟨k + 1, _, σ ++ σ8, by omega, by have := HN60.out; omega, by go_num, by rw [HTN.out], own_set own8 (by omega), by rw [List.map_append, e8, HROW.out.2, evsUp_next, HEV.out.2], bk8.set 1 _ (by simp), (((HBW.out.trans (hb5.mono (by have := HV3.out; omega))).alloc (Nat.le_trans (by have := HV3.out; omega) hb5.size) _).grown gr8 (Nat.le_trans (by have := HV3.out; omega) (Nat.le_trans hb5.size (size_one _ _))) (fun g hg => by have := (HROW.out.1.1.lt g hg).1; omega)).setCell (p := ⟨w.heap.size + 1 + 1, 1, none⟩) (Nat.le_refl _) _⟩
       case measure => simp [intOf]; omega
    ·have h65' : decide (z ≥ 65000) = false := decide_eq_false h65
     by_cases h31 : z / 32 % 32 = 31
     ·obtain ⟨e32, he32⟩ : ∃ e, (IntKind.u16.wrap (z.tdiv 32)).tmod 32 = e := ⟨_, rfl⟩
      have he32' : e32 = z / 32 % 32 := by
       rw [← he32, Int.tdiv_eq_ediv_of_nonneg hz0', wrap_u16 (by omega) (by omega), Int.tmod_eq_emod_of_nonneg (by omega)]
      have h31' : (e32 == 31) = true := by rw [he32', h31]; rfl
      obtain ⟨T', hT'⟩ : ∃ T', T + 3000 = T' := ⟨_, rfl⟩
      have htn : timeUp start zs (k + 1) = T' := by rw [htn0, ← hT']; unfold stepM; rw [if_neg h65, if_pos h31]
      have hevw : (Lit.int .u64 T').wf = true ∧ evM start zs k = ⟨T', idsM q⟩ := ⟨by rw [htn] at hTB1; simp [Lit.wf, IntKind.min, IntKind.max, IntKind.signed, IntKind.bits]; omega, by rw [hevm, htn]⟩
      have hHT : True := trivial
      clear hTB1 htn0 hevm he32'
      go_wp2
      try rw [hT']
      clear hT' hT1 hT2 h65'
      have HTN := Lib.hid htn
      have HEV := Lib.hid hevw
      clear hT hHT htn hevw
      obtain ⟨V, hV⟩ : ∃ V, V = wr.drew := ⟨_, rfl⟩
      have HROW := Lib.hid (show OwnEvs (New3 w) V (w.heap.size + 3) v σ ∧ σ.map (·.1) = evsUp start zs k by rw [hV]; exact ⟨HR.out.1, HR.out.2.1⟩)
      have HBK := Lib.hid (show Blk V (w.heap.size + 1 + 1) [.slice (some ⟨w.heap.size + 1, 0, none⟩) 3 3, v] by rw [hV]; exact HR.out.2.2.1)
      have HBW := Lib.hid (show Below (w.heap.size + 2) (wM0 w) V by rw [hV]; exact HR.out.2.2.2.drew)
      have HV3 := Lib.hid (show w.heap.size + 3 ≤ V.heap.size by have := HBK.out.1; omega)
      have HID := Lib.hid (fun W => lawIds q hq W)
      have HQ8 := Lib.hid hq
      have HN60 := Lib.hid h60
      have HK60 := Lib.hid hk60
      obtain ⟨qi, hqi⟩ : ∃ qi, (idsM q).length = qi := ⟨_, rfl⟩
      have HQI := Lib.hid hqi
      clear hq hqi h60
      refine wp_region_held_drew (S := fun _ => True) (by kernel_rfl) trivial (fun hHeld => ?_)
      rw [← hV]
      clear hV HR
      refine tkOp 0 hHeld ?_
      refine tkOp 2 hHeld ?_
      refine tkOp 3 hHeld ?_
      refine tkOp 4 hHeld ?_
      refine wpAnyH_ready (rs := [1, 5]) (by kernel_rfl) (by simp) ?_
      refine AllReadyH.cons (o := ?oi24) ?hi24 (fun K0 hK => ?_) (AllReadyH.cons (o := ?oj24) ?hj24 (fun K0 hK => ?_) AllReadyH.nil)
      case hi24 => (simp only [List.getElem?_toArray, List.getElem?_cons_succ, List.getElem?_cons_zero]; rfl)
      case hj24 => (simp only [List.getElem?_toArray, List.getElem?_cons_succ, List.getElem?_cons_zero]; rfl)
      ·have l1 := HBK.out.cell 1 rfl
       go_simp
       refine hK.out _ _ trivial (fun hHeld2 => ?_)
       clear hK K0 hHeld
       have hHeld := hHeld2
       clear hHeld2
       try simp only [Act.put, List.setIfInBounds_toArray, List.set_cons_zero, List.set_cons_succ]
       clear l1
       refine wpAnyH_ready (rs := [5]) (by kernel_rfl) (by simp) ?_
       refine AllReadyH.cons (o := ?oi13) ?hi13 (fun K0 hK => ?_) AllReadyH.nil
       case hi13 => (simp only [List.getElem?_toArray, List.getElem?_cons_succ, List.getElem?_cons_zero]; rfl)
       go_simp
       go_at_call 14
       refine (HID.out V).mono ?_
       rintro e W5 ⟨I, cI, rfl, hI1, hI2, hI3, hb5, hI4⟩
       rw [HQI.out] at hI1 hI2 ⊢
       refine hK.out _ _ trivial (fun hHeld2 => ?_)
       clear hK K0 hHeld
       have hHeld := hHeld2
       clear hHeld2
       try simp only [Act.put, List.setIfInBounds_toArray, List.set_cons_zero, List.set_cons_succ]
       have ki := ids_evs (w := w) HQI.out HEV.out.1 (fun g hg => (HROW.out.1.1.lt g hg).2) HV3.out hI1 hI2 hI3 hb5 hI4
       have bk5 := HBK.out.later hb5
       clear hI1 hI2 hI3 hI4
       refine tkOp 6 hHeld ?_
       refine wpAnyH_ready (rs := [7]) (by kernel_rfl) (by simp) ?_
       refine AllReadyH.cons (o := ?oi14) ?hi14 (fun K0 hK => ?_) AllReadyH.nil
       case hi14 => (simp only [List.getElem?_toArray, List.getElem?_cons_succ, List.getElem?_cons_zero]; rfl)
       go_simp
       refine hK.out _ _ trivial (fun hHeld2 => ?_)
       clear hK K0 hHeld
       have hHeld := hHeld2
       clear hHeld2
       try simp only [Act.put, List.setIfInBounds_toArray, List.set_cons_zero, List.set_cons_succ]
       have bk7 := bk5.alloc (.cells #[.int .u64 T', .slice I qi cI] 47)
       refine wpAnyH_ready (rs := [8]) (by kernel_rfl) (by simp) ?_
       refine AllReadyH.cons (o := ?oi16) ?hi16 (fun K0 hK => ?_) AllReadyH.nil
       case hi16 => (simp only [List.getElem?_toArray, List.getElem?_cons_succ, List.getElem?_cons_zero]; rfl)
       refine step_append_evs rfl (.tmp 39) (.tmp 45) 26 rfl (w.heap.size + 3) iE _ Tryz.underlying26 hiE hz0 hz1 hz2 rfl _ _ (by rfl) (New3 w) ((HROW.out.1.below hb5).below ((Below.refl _ W5).alloc (Nat.le_refl _) (.cells #[.int .u64 T', .slice I qi cI] 47))) _ 1 _ [(⟨T', idsM q⟩ : Ev)] (by rfl) (by rfl) ki (by have := HK60.out; have h1 := congrArg List.length HROW.out.2; rw [List.length_map, evsUp_len] at h1; omega) (Nat.le_trans HV3.out (Nat.le_trans hb5.size (size_one _ _))) ?_
       intro v8 W8 σ8 e8 own8 gr8 at8
       obtain ⟨A8, c8, ev8, -⟩ := own_sliceN own8.1
       obtain ⟨n8, hn8⟩ : ∃ n8, (σ ++ σ8).length = n8 := ⟨_, rfl⟩
       rw [hn8] at ev8
       subst ev8
       refine hK.out _ _ trivial (fun hHeld2 => ?_)
       clear hK K0 hHeld
       have hHeld := hHeld2
       clear hHeld2
       try simp only [Act.put, List.setIfInBounds_toArray, List.set_cons_zero, List.set_cons_succ]
       have bk8 := bk7.grown gr8 (fun e => by have := (HROW.out.1.1.lt _ e.symm).1; omega)
       have c81 := bk8.cell 1 rfl
       have f81 := bk8.fz 1 rfl
       refine tkOp 9 hHeld ?_
       refine wpAnyH_ready (rs := [10]) (by kernel_rfl) (by simp) ?_
       refine AllReadyH.cons (o := ?oi15) ?hi15 (fun K0 hK => ?_) AllReadyH.nil
       case hi15 => (simp only [List.getElem?_toArray, List.getElem?_cons_succ, List.getElem?_cons_zero]; rfl)
       go_simp
       refine hK.out _ _ trivial (fun hHeld2 => ?_)
       clear hK K0 hHeld
       have hHeld := hHeld2
       clear hHeld2
       try simp only [Act.put, List.setIfInBounds_toArray, List.set_cons_zero, List.set_cons_succ]
       refine wpAnyH_done (by kernel_rfl) ?_ _
       clear hHeld c81 f81
       go_wp2
       go_roundw
       case rel => exact ⟨k + 1, _, σ ++ σ8, by omega, by have := HN60.out; omega, by go_num, by rw [HTN.out], own_set own8 (by omega), by rw [List.map_append, e8, HROW.out.2, evsUp_next, HEV.out.2], bk8.set 1 _ (by simp), (((HBW.out.trans (hb5.mono (by have := HV3.out; omega))).alloc (Nat.le_trans (by have := HV3.out; omega) hb5.size) _).grown gr8 (Nat.le_trans (by have := HV3.out; omega) (Nat.le_trans hb5.size (size_one _ _))) (fun g hg => by have := (HROW.out.1.1.lt g hg).1; omega)).setCell (p := ⟨w.heap.size + 1 + 1, 1, none⟩) (Nat.le_refl _) _⟩
       case measure => simp [intOf]; omega
      ·go_simp
       go_at_call 14
       refine (HID.out V).mono ?_
       rintro e W5 ⟨I, cI, rfl, hI1, hI2, hI3, hb5, hI4⟩
       rw [HQI.out] at hI1 hI2 ⊢
       refine hK.out _ _ trivial (fun hHeld2 => ?_)
       clear hK K0 hHeld
       have hHeld := hHeld2
       clear hHeld2
       try simp only [Act.put, List.setIfInBounds_toArray, List.set_cons_zero, List.set_cons_succ]
       have ki := ids_evs (w := w) HQI.out HEV.out.1 (fun g hg => (HROW.out.1.1.lt g hg).2) HV3.out hI1 hI2 hI3 hb5 hI4
       have bk5 := HBK.out.later hb5
       clear hI1 hI2 hI3 hI4
       refine tkOp 6 hHeld ?_
       refine wpAnyH_ready (rs := [1, 7]) (by kernel_rfl) (by simp) ?_
       refine AllReadyH.cons (o := ?oi23) ?hi23 (fun K0 hK => ?_) (AllReadyH.cons (o := ?oj23) ?hj23 (fun K0 hK => ?_) AllReadyH.nil)
       case hi23 => (simp only [List.getElem?_toArray, List.getElem?_cons_succ, List.getElem?_cons_zero]; rfl)
       case hj23 => (simp only [List.getElem?_toArray, List.getElem?_cons_succ, List.getElem?_cons_zero]; rfl)
       ·have l1 := bk5.cell 1 rfl
        go_simp
        refine hK.out _ _ trivial (fun hHeld2 => ?_)
        clear hK K0 hHeld
        have hHeld := hHeld2
        clear hHeld2
        try simp only [Act.put, List.setIfInBounds_toArray, List.set_cons_zero, List.set_cons_succ]
        clear l1
        refine wpAnyH_ready (rs := [7]) (by kernel_rfl) (by simp) ?_
        refine AllReadyH.cons (o := ?oi17) ?hi17 (fun K0 hK => ?_) AllReadyH.nil
        case hi17 => (simp only [List.getElem?_toArray, List.getElem?_cons_succ, List.getElem?_cons_zero]; rfl)
        go_simp
        refine hK.out _ _ trivial (fun hHeld2 => ?_)
        clear hK K0 hHeld
        have hHeld := hHeld2
        clear hHeld2
        try simp only [Act.put, List.setIfInBounds_toArray, List.set_cons_zero, List.set_cons_succ]
        have bk7 := bk5.alloc (.cells #[.int .u64 T', .slice I qi cI] 47)
        refine wpAnyH_ready (rs := [8]) (by kernel_rfl) (by simp) ?_
        refine AllReadyH.cons (o := ?oi19) ?hi19 (fun K0 hK => ?_) AllReadyH.nil
        case hi19 => (simp only [List.getElem?_toArray, List.getElem?_cons_succ, List.getElem?_cons_zero]; rfl)
        refine step_append_evs rfl (.tmp 39) (.tmp 45) 26 rfl (w.heap.size + 3) iE _ Tryz.underlying26 hiE hz0 hz1 hz2 rfl _ _ (by rfl) (New3 w) ((HROW.out.1.below hb5).below ((Below.refl _ W5).alloc (Nat.le_refl _) (.cells #[.int .u64 T', .slice I qi cI] 47))) _ 1 _ [(⟨T', idsM q⟩ : Ev)] (by rfl) (by rfl) ki (by have := HK60.out; have h1 := congrArg List.length HROW.out.2; rw [List.length_map, evsUp_len] at h1; omega) (Nat.le_trans HV3.out (Nat.le_trans hb5.size (size_one _ _))) ?_
        intro v8 W8 σ8 e8 own8 gr8 at8
        obtain ⟨A8, c8, ev8, -⟩ := own_sliceN own8.1
        obtain ⟨n8, hn8⟩ : ∃ n8, (σ ++ σ8).length = n8 := ⟨_, rfl⟩
        rw [hn8] at ev8
        subst ev8
        refine hK.out _ _ trivial (fun hHeld2 => ?_)
        clear hK K0 hHeld
        have hHeld := hHeld2
        clear hHeld2
        try simp only [Act.put, List.setIfInBounds_toArray, List.set_cons_zero, List.set_cons_succ]
        have bk8 := bk7.grown gr8 (fun e => by have := (HROW.out.1.1.lt _ e.symm).1; omega)
        have c81 := bk8.cell 1 rfl
        have f81 := bk8.fz 1 rfl
        refine tkOp 9 hHeld ?_
        refine wpAnyH_ready (rs := [10]) (by kernel_rfl) (by simp) ?_
        refine AllReadyH.cons (o := ?oi18) ?hi18 (fun K0 hK => ?_) AllReadyH.nil
        case hi18 => (simp only [List.getElem?_toArray, List.getElem?_cons_succ, List.getElem?_cons_zero]; rfl)
        go_simp
        refine hK.out _ _ trivial (fun hHeld2 => ?_)
        clear hK K0 hHeld
        have hHeld := hHeld2
        clear hHeld2
        try simp only [Act.put, List.setIfInBounds_toArray, List.set_cons_zero, List.set_cons_succ]
        refine wpAnyH_done (by kernel_rfl) ?_ _
        clear hHeld c81 f81
        go_wp2
        go_roundw
        case rel => exact ⟨k + 1, _, σ ++ σ8, by omega, by have := HN60.out; omega, by go_num, by rw [HTN.out], own_set own8 (by omega), by rw [List.map_append, e8, HROW.out.2, evsUp_next, HEV.out.2], bk8.set 1 _ (by simp), (((HBW.out.trans (hb5.mono (by have := HV3.out; omega))).alloc (Nat.le_trans (by have := HV3.out; omega) hb5.size) _).grown gr8 (Nat.le_trans (by have := HV3.out; omega) (Nat.le_trans hb5.size (size_one _ _))) (fun g hg => by have := (HROW.out.1.1.lt g hg).1; omega)).setCell (p := ⟨w.heap.size + 1 + 1, 1, none⟩) (Nat.le_refl _) _⟩
        case measure => simp [intOf]; omega
       ·go_simp
        refine hK.out _ _ trivial (fun hHeld2 => ?_)
        clear hK K0 hHeld
        have hHeld := hHeld2
        clear hHeld2
        try simp only [Act.put, List.setIfInBounds_toArray, List.set_cons_zero, List.set_cons_succ]
        have bk7 := bk5.alloc (.cells #[.int .u64 T', .slice I qi cI] 47)
        refine wpAnyH_ready (rs := [1]) (by kernel_rfl) (by simp) ?_
        refine AllReadyH.cons (o := ?oi20) ?hi20 (fun K0 hK => ?_) AllReadyH.nil
        case hi20 => (simp only [List.getElem?_toArray, List.getElem?_cons_succ, List.getElem?_cons_zero]; rfl)
        have l1 := bk7.cell 1 rfl
        go_simp
        refine hK.out _ _ trivial (fun hHeld2 => ?_)
        clear hK K0 hHeld
        have hHeld := hHeld2
        clear hHeld2
        try simp only [Act.put, List.setIfInBounds_toArray, List.set_cons_zero, List.set_cons_succ]
        clear l1
        refine wpAnyH_ready (rs := [8]) (by kernel_rfl) (by simp) ?_
        refine AllReadyH.cons (o := ?oi22) ?hi22 (fun K0 hK => ?_) AllReadyH.nil
        case hi22 => (simp only [List.getElem?_toArray, List.getElem?_cons_succ, List.getElem?_cons_zero]; rfl)
        refine step_append_evs rfl (.tmp 39) (.tmp 45) 26 rfl (w.heap.size + 3) iE _ Tryz.underlying26 hiE hz0 hz1 hz2 rfl _ _ (by rfl) (New3 w) ((HROW.out.1.below hb5).below ((Below.refl _ W5).alloc (Nat.le_refl _) (.cells #[.int .u64 T', .slice I qi cI] 47))) _ 1 _ [(⟨T', idsM q⟩ : Ev)] (by rfl) (by rfl) ki (by have := HK60.out; have h1 := congrArg List.length HROW.out.2; rw [List.length_map, evsUp_len] at h1; omega) (Nat.le_trans HV3.out (Nat.le_trans hb5.size (size_one _ _))) ?_
        intro v8 W8 σ8 e8 own8 gr8 at8
        obtain ⟨A8, c8, ev8, -⟩ := own_sliceN own8.1
        obtain ⟨n8, hn8⟩ : ∃ n8, (σ ++ σ8).length = n8 := ⟨_, rfl⟩
        rw [hn8] at ev8
        subst ev8
        refine hK.out _ _ trivial (fun hHeld2 => ?_)
        clear hK K0 hHeld
        have hHeld := hHeld2
        clear hHeld2
        try simp only [Act.put, List.setIfInBounds_toArray, List.set_cons_zero, List.set_cons_succ]
        have bk8 := bk7.grown gr8 (fun e => by have := (HROW.out.1.1.lt _ e.symm).1; omega)
        have c81 := bk8.cell 1 rfl
        have f81 := bk8.fz 1 rfl
        refine tkOp 9 hHeld ?_
        refine wpAnyH_ready (rs := [10]) (by kernel_rfl) (by simp) ?_
        refine AllReadyH.cons (o := ?oi21) ?hi21 (fun K0 hK => ?_) AllReadyH.nil
        case hi21 => (simp only [List.getElem?_toArray, List.getElem?_cons_succ, List.getElem?_cons_zero]; rfl)
        go_simp
        refine hK.out _ _ trivial (fun hHeld2 => ?_)
        clear hK K0 hHeld
        have hHeld := hHeld2
        clear hHeld2
        try simp only [Act.put, List.setIfInBounds_toArray, List.set_cons_zero, List.set_cons_succ]
        refine wpAnyH_done (by kernel_rfl) ?_ _
        clear hHeld c81 f81
        go_wp2
        go_roundw
        case rel => exact ⟨k + 1, _, σ ++ σ8, by omega, by have := HN60.out; omega, by go_num, by rw [HTN.out], own_set own8 (by omega), by rw [List.map_append, e8, HROW.out.2, evsUp_next, HEV.out.2], bk8.set 1 _ (by simp), (((HBW.out.trans (hb5.mono (by have := HV3.out; omega))).alloc (Nat.le_trans (by have := HV3.out; omega) hb5.size) _).grown gr8 (Nat.le_trans (by have := HV3.out; omega) (Nat.le_trans hb5.size (size_one _ _))) (fun g hg => by have := (HROW.out.1.1.lt g hg).1; omega)).setCell (p := ⟨w.heap.size + 1 + 1, 1, none⟩) (Nat.le_refl _) _⟩
        case measure => simp [intOf]; omega
     ·obtain ⟨e32, he32⟩ : ∃ e, (IntKind.u16.wrap (z.tdiv 32)).tmod 32 = e := ⟨_, rfl⟩
      have he32' : e32 = z / 32 % 32 := by
       rw [← he32, Int.tdiv_eq_ediv_of_nonneg hz0', wrap_u16 (by omega) (by omega), Int.tmod_eq_emod_of_nonneg (by omega)]
      have h31' : (e32 == 31) = false := by rw [he32']; simp; exact h31
      obtain ⟨D, hD⟩ : ∃ D, IntKind.u64.wrap ((IntKind.u16.wrap (z.tdiv 8)).tmod 4) = D := ⟨_, rfl⟩
      have hD' : D = z / 8 % 4 := by
       rw [← hD, Int.tdiv_eq_ediv_of_nonneg hz0', wrap_u16 (by omega) (by omega), Int.tmod_eq_emod_of_nonneg (by omega), wrap_u64 (by omega) (by omega)]
      have hD1 : 0 ≤ D := by omega
      have hD2 : D ≤ 3 := by omega
      obtain ⟨T', hT'⟩ : ∃ T', T + D = T' := ⟨_, rfl⟩
      have htn : timeUp start zs (k + 1) = T' := by rw [htn0, ← hT']; unfold stepM; rw [if_neg h65, if_neg h31, hD']
      have hevw : (Lit.int .u64 T').wf = true ∧ evM start zs k = ⟨T', idsM q⟩ := ⟨by rw [htn] at hTB1; simp [Lit.wf, IntKind.min, IntKind.max, IntKind.signed, IntKind.bits]; omega, by rw [hevm, htn]⟩
      have hHT : True := trivial
      clear hTB1 htn0 hevm he32' hD'
      go_wp2
      try rw [hT']
      clear hT' hT1 hT2 h65'
      have HTN := Lib.hid htn
      have HEV := Lib.hid hevw
      clear hT hHT htn hevw
      obtain ⟨V, hV⟩ : ∃ V, V = wr.drew := ⟨_, rfl⟩
      have HROW := Lib.hid (show OwnEvs (New3 w) V (w.heap.size + 3) v σ ∧ σ.map (·.1) = evsUp start zs k by rw [hV]; exact ⟨HR.out.1, HR.out.2.1⟩)
      have HBK := Lib.hid (show Blk V (w.heap.size + 1 + 1) [.slice (some ⟨w.heap.size + 1, 0, none⟩) 3 3, v] by rw [hV]; exact HR.out.2.2.1)
      have HBW := Lib.hid (show Below (w.heap.size + 2) (wM0 w) V by rw [hV]; exact HR.out.2.2.2.drew)
      have HV3 := Lib.hid (show w.heap.size + 3 ≤ V.heap.size by have := HBK.out.1; omega)
      have HID := Lib.hid (fun W => lawIds q hq W)
      have HQ8 := Lib.hid hq
      have HN60 := Lib.hid h60
      have HK60 := Lib.hid hk60
      obtain ⟨qi, hqi⟩ : ∃ qi, (idsM q).length = qi := ⟨_, rfl⟩
      have HQI := Lib.hid hqi
      clear hq hqi h60
      refine wp_region_held_drew (S := fun _ => True) (by kernel_rfl) trivial (fun hHeld => ?_)
      rw [← hV]
      clear hV HR
      refine tkOp 0 hHeld ?_
      refine tkOp 2 hHeld ?_
      refine tkOp 3 hHeld ?_
      refine tkOp 4 hHeld ?_
      refine wpAnyH_ready (rs := [1, 5]) (by kernel_rfl) (by simp) ?_
      refine AllReadyH.cons (o := ?oi36) ?hi36 (fun K0 hK => ?_) (AllReadyH.cons (o := ?oj36) ?hj36 (fun K0 hK => ?_) AllReadyH.nil)
      case hi36 => (simp only [List.getElem?_toArray, List.getElem?_cons_succ, List.getElem?_cons_zero]; rfl)
      case hj36 => (simp only [List.getElem?_toArray, List.getElem?_cons_succ, List.getElem?_cons_zero]; rfl)
      ·have l1 := HBK.out.cell 1 rfl
       go_simp
       refine hK.out _ _ trivial (fun hHeld2 => ?_)
       clear hK K0 hHeld
       have hHeld := hHeld2
       clear hHeld2
       try simp only [Act.put, List.setIfInBounds_toArray, List.set_cons_zero, List.set_cons_succ]
       clear l1
       refine wpAnyH_ready (rs := [5]) (by kernel_rfl) (by simp) ?_
       refine AllReadyH.cons (o := ?oi25) ?hi25 (fun K0 hK => ?_) AllReadyH.nil
       case hi25 => (simp only [List.getElem?_toArray, List.getElem?_cons_succ, List.getElem?_cons_zero]; rfl)
       go_simp
       go_at_call 14
       refine (HID.out V).mono ?_
       rintro e W5 ⟨I, cI, rfl, hI1, hI2, hI3, hb5, hI4⟩
       rw [HQI.out] at hI1 hI2 ⊢
       refine hK.out _ _ trivial (fun hHeld2 => ?_)
       clear hK K0 hHeld
       have hHeld := hHeld2
       clear hHeld2
       try simp only [Act.put, List.setIfInBounds_toArray, List.set_cons_zero, List.set_cons_succ]
       have ki := ids_evs (w := w) HQI.out HEV.out.1 (fun g hg => (HROW.out.1.1.lt g hg).2) HV3.out hI1 hI2 hI3 hb5 hI4
       have bk5 := HBK.out.later hb5
       clear hI1 hI2 hI3 hI4
       refine tkOp 6 hHeld ?_
       refine wpAnyH_ready (rs := [7]) (by kernel_rfl) (by simp) ?_
       refine AllReadyH.cons (o := ?oi26) ?hi26 (fun K0 hK => ?_) AllReadyH.nil
       case hi26 => (simp only [List.getElem?_toArray, List.getElem?_cons_succ, List.getElem?_cons_zero]; rfl)
       go_simp
       refine hK.out _ _ trivial (fun hHeld2 => ?_)
       clear hK K0 hHeld
       have hHeld := hHeld2
       clear hHeld2
       try simp only [Act.put, List.setIfInBounds_toArray, List.set_cons_zero, List.set_cons_succ]
       have bk7 := bk5.alloc (.cells #[.int .u64 T', .slice I qi cI] 47)
       refine wpAnyH_ready (rs := [8]) (by kernel_rfl) (by simp) ?_
       refine AllReadyH.cons (o := ?oi28) ?hi28 (fun K0 hK => ?_) AllReadyH.nil
       case hi28 => (simp only [List.getElem?_toArray, List.getElem?_cons_succ, List.getElem?_cons_zero]; rfl)
       refine step_append_evs rfl (.tmp 39) (.tmp 45) 26 rfl (w.heap.size + 3) iE _ Tryz.underlying26 hiE hz0 hz1 hz2 rfl _ _ (by rfl) (New3 w) ((HROW.out.1.below hb5).below ((Below.refl _ W5).alloc (Nat.le_refl _) (.cells #[.int .u64 T', .slice I qi cI] 47))) _ 1 _ [(⟨T', idsM q⟩ : Ev)] (by rfl) (by rfl) ki (by have := HK60.out; have h1 := congrArg List.length HROW.out.2; rw [List.length_map, evsUp_len] at h1; omega) (Nat.le_trans HV3.out (Nat.le_trans hb5.size (size_one _ _))) ?_
       intro v8 W8 σ8 e8 own8 gr8 at8
       obtain ⟨A8, c8, ev8, -⟩ := own_sliceN own8.1
       obtain ⟨n8, hn8⟩ : ∃ n8, (σ ++ σ8).length = n8 := ⟨_, rfl⟩
       rw [hn8] at ev8
       subst ev8
       refine hK.out _ _ trivial (fun hHeld2 => ?_)
       clear hK K0 hHeld
       have hHeld := hHeld2
       clear hHeld2
       try simp only [Act.put, List.setIfInBounds_toArray, List.set_cons_zero, List.set_cons_succ]
       have bk8 := bk7.grown gr8 (fun e => by have := (HROW.out.1.1.lt _ e.symm).1; omega)
       have c81 := bk8.cell 1 rfl
       have f81 := bk8.fz 1 rfl
       refine tkOp 9 hHeld ?_
       refine wpAnyH_ready (rs := [10]) (by kernel_rfl) (by simp) ?_
       refine AllReadyH.cons (o := ?oi27) ?hi27 (fun K0 hK => ?_) AllReadyH.nil
       case hi27 => (simp only [List.getElem?_toArray, List.getElem?_cons_succ, List.getElem?_cons_zero]; rfl)
       go_simp
       refine hK.out _ _ trivial (fun hHeld2 => ?_)
       clear hK K0 hHeld
       have hHeld := hHeld2
       clear hHeld2
       try simp only [Act.put, List.setIfInBounds_toArray, List.set_cons_zero, List.set_cons_succ]
       refine wpAnyH_done (by kernel_rfl) ?_ _
       clear hHeld c81 f81
       go_wp2
       go_roundw
       case rel => exact ⟨k + 1, _, σ ++ σ8, by omega, by have := HN60.out; omega, by go_num, by rw [HTN.out], own_set own8 (by omega), by rw [List.map_append, e8, HROW.out.2, evsUp_next, HEV.out.2], bk8.set 1 _ (by simp), (((HBW.out.trans (hb5.mono (by have := HV3.out; omega))).alloc (Nat.le_trans (by have := HV3.out; omega) hb5.size) _).grown gr8 (Nat.le_trans (by have := HV3.out; omega) (Nat.le_trans hb5.size (size_one _ _))) (fun g hg => by have := (HROW.out.1.1.lt g hg).1; omega)).setCell (p := ⟨w.heap.size + 1 + 1, 1, none⟩) (Nat.le_refl _) _⟩
       case measure => simp [intOf]; omega
      ·go_simp
       go_at_call 14
       refine (HID.out V).mono ?_
       rintro e W5 ⟨I, cI, rfl, hI1, hI2, hI3, hb5, hI4⟩
       rw [HQI.out] at hI1 hI2 ⊢
       refine hK.out _ _ trivial (fun hHeld2 => ?_)
       clear hK K0 hHeld
       have hHeld := hHeld2
       clear hHeld2
       try simp only [Act.put, List.setIfInBounds_toArray, List.set_cons_zero, List.set_cons_succ]
       have ki := ids_evs (w := w) HQI.out HEV.out.1 (fun g hg => (HROW.out.1.1.lt g hg).2) HV3.out hI1 hI2 hI3 hb5 hI4
       have bk5 := HBK.out.later hb5
       clear hI1 hI2 hI3 hI4
       refine tkOp 6 hHeld ?_
       refine wpAnyH_ready (rs := [1, 7]) (by kernel_rfl) (by simp) ?_
       refine AllReadyH.cons (o := ?oi35) ?hi35 (fun K0 hK => ?_) (AllReadyH.cons (o := ?oj35) ?hj35 (fun K0 hK => ?_) AllReadyH.nil)
       case hi35 => (simp only [List.getElem?_toArray, List.getElem?_cons_succ, List.getElem?_cons_zero]; rfl)
       case hj35 => (simp only [List.getElem?_toArray, List.getElem?_cons_succ, List.getElem?_cons_zero]; rfl)
       ·have l1 := bk5.cell 1 rfl
        go_simp
        refine hK.out _ _ trivial (fun hHeld2 => ?_)
        clear hK K0 hHeld
        have hHeld := hHeld2
        clear hHeld2
        try simp only [Act.put, List.setIfInBounds_toArray, List.set_cons_zero, List.set_cons_succ]
        clear l1
        refine wpAnyH_ready (rs := [7]) (by kernel_rfl) (by simp) ?_
        refine AllReadyH.cons (o := ?oi29) ?hi29 (fun K0 hK => ?_) AllReadyH.nil
        case hi29 => (simp only [List.getElem?_toArray, List.getElem?_cons_succ, List.getElem?_cons_zero]; rfl)
        go_simp
        refine hK.out _ _ trivial (fun hHeld2 => ?_)
        clear hK K0 hHeld
        have hHeld := hHeld2
        clear hHeld2
        try simp only [Act.put, List.setIfInBounds_toArray, List.set_cons_zero, List.set_cons_succ]
        have bk7 := bk5.alloc (.cells #[.int .u64 T', .slice I qi cI] 47)
        refine wpAnyH_ready (rs := [8]) (by kernel_rfl) (by simp) ?_
        refine AllReadyH.cons (o := ?oi31) ?hi31 (fun K0 hK => ?_) AllReadyH.nil
        case hi31 => (simp only [List.getElem?_toArray, List.getElem?_cons_succ, List.getElem?_cons_zero]; rfl)
        refine step_append_evs rfl (.tmp 39) (.tmp 45) 26 rfl (w.heap.size + 3) iE _ Tryz.underlying26 hiE hz0 hz1 hz2 rfl _ _ (by rfl) (New3 w) ((HROW.out.1.below hb5).below ((Below.refl _ W5).alloc (Nat.le_refl _) (.cells #[.int .u64 T', .slice I qi cI] 47))) _ 1 _ [(⟨T', idsM q⟩ : Ev)] (by rfl) (by rfl) ki (by have := HK60.out; have h1 := congrArg List.length HROW.out.2; rw [List.length_map, evsUp_len] at h1; omega) (Nat.le_trans HV3.out (Nat.le_trans hb5.size (size_one _ _))) ?_
        intro v8 W8 σ8 e8 own8 gr8 at8
        obtain ⟨A8, c8, ev8, -⟩ := own_sliceN own8.1
        obtain ⟨n8, hn8⟩ : ∃ n8, (σ ++ σ8).length = n8 := ⟨_, rfl⟩
        rw [hn8] at ev8
        subst ev8
        refine hK.out _ _ trivial (fun hHeld2 => ?_)
        clear hK K0 hHeld
        have hHeld := hHeld2
        clear hHeld2
        try simp only [Act.put, List.setIfInBounds_toArray, List.set_cons_zero, List.set_cons_succ]
        have bk8 := bk7.grown gr8 (fun e => by have := (HROW.out.1.1.lt _ e.symm).1; omega)
        have c81 := bk8.cell 1 rfl
        have f81 := bk8.fz 1 rfl
        refine tkOp 9 hHeld ?_
        refine wpAnyH_ready (rs := [10]) (by kernel_rfl) (by simp) ?_
        refine AllReadyH.cons (o := ?oi30) ?hi30 (fun K0 hK => ?_) AllReadyH.nil
        case hi30 => (simp only [List.getElem?_toArray, List.getElem?_cons_succ, List.getElem?_cons_zero]; rfl)
        go_simp
        refine hK.out _ _ trivial (fun hHeld2 => ?_)
        clear hK K0 hHeld
        have hHeld := hHeld2
        clear hHeld2
        try simp only [Act.put, List.setIfInBounds_toArray, List.set_cons_zero, List.set_cons_succ]
        refine wpAnyH_done (by kernel_rfl) ?_ _
        clear hHeld c81 f81
        go_wp2
        go_roundw
        case rel => exact ⟨k + 1, _, σ ++ σ8, by omega, by have := HN60.out; omega, by go_num, by rw [HTN.out], own_set own8 (by omega), by rw [List.map_append, e8, HROW.out.2, evsUp_next, HEV.out.2], bk8.set 1 _ (by simp), (((HBW.out.trans (hb5.mono (by have := HV3.out; omega))).alloc (Nat.le_trans (by have := HV3.out; omega) hb5.size) _).grown gr8 (Nat.le_trans (by have := HV3.out; omega) (Nat.le_trans hb5.size (size_one _ _))) (fun g hg => by have := (HROW.out.1.1.lt g hg).1; omega)).setCell (p := ⟨w.heap.size + 1 + 1, 1, none⟩) (Nat.le_refl _) _⟩
        case measure => simp [intOf]; omega
       ·go_simp
        refine hK.out _ _ trivial (fun hHeld2 => ?_)
        clear hK K0 hHeld
        have hHeld := hHeld2
        clear hHeld2
        try simp only [Act.put, List.setIfInBounds_toArray, List.set_cons_zero, List.set_cons_succ]
        have bk7 := bk5.alloc (.cells #[.int .u64 T', .slice I qi cI] 47)
        refine wpAnyH_ready (rs := [1]) (by kernel_rfl) (by simp) ?_
        refine AllReadyH.cons (o := ?oi32) ?hi32 (fun K0 hK => ?_) AllReadyH.nil
        case hi32 => (simp only [List.getElem?_toArray, List.getElem?_cons_succ, List.getElem?_cons_zero]; rfl)
        have l1 := bk7.cell 1 rfl
        go_simp
        refine hK.out _ _ trivial (fun hHeld2 => ?_)
        clear hK K0 hHeld
        have hHeld := hHeld2
        clear hHeld2
        try simp only [Act.put, List.setIfInBounds_toArray, List.set_cons_zero, List.set_cons_succ]
        clear l1
        refine wpAnyH_ready (rs := [8]) (by kernel_rfl) (by simp) ?_
        refine AllReadyH.cons (o := ?oi34) ?hi34 (fun K0 hK => ?_) AllReadyH.nil
        case hi34 => (simp only [List.getElem?_toArray, List.getElem?_cons_succ, List.getElem?_cons_zero]; rfl)
        refine step_append_evs rfl (.tmp 39) (.tmp 45) 26 rfl (w.heap.size + 3) iE _ Tryz.underlying26 hiE hz0 hz1 hz2 rfl _ _ (by rfl) (New3 w) ((HROW.out.1.below hb5).below ((Below.refl _ W5).alloc (Nat.le_refl _) (.cells #[.int .u64 T', .slice I qi cI] 47))) _ 1 _ [(⟨T', idsM q⟩ : Ev)] (by rfl) (by rfl) ki (by have := HK60.out; have h1 := congrArg List.length HROW.out.2; rw [List.length_map, evsUp_len] at h1; omega) (Nat.le_trans HV3.out (Nat.le_trans hb5.size (size_one _ _))) ?_
        intro v8 W8 σ8 e8 own8 gr8 at8
        obtain ⟨A8, c8, ev8, -⟩ := own_sliceN own8.1
        obtain ⟨n8, hn8⟩ : ∃ n8, (σ ++ σ8).length = n8 := ⟨_, rfl⟩
        rw [hn8] at ev8
        subst ev8
        refine hK.out _ _ trivial (fun hHeld2 => ?_)
        clear hK K0 hHeld
        have hHeld := hHeld2
        clear hHeld2
        try simp only [Act.put, List.setIfInBounds_toArray, List.set_cons_zero, List.set_cons_succ]
        have bk8 := bk7.grown gr8 (fun e => by have := (HROW.out.1.1.lt _ e.symm).1; omega)
        have c81 := bk8.cell 1 rfl
        have f81 := bk8.fz 1 rfl
        refine tkOp 9 hHeld ?_
        refine wpAnyH_ready (rs := [10]) (by kernel_rfl) (by simp) ?_
        refine AllReadyH.cons (o := ?oi33) ?hi33 (fun K0 hK => ?_) AllReadyH.nil
        case hi33 => (simp only [List.getElem?_toArray, List.getElem?_cons_succ, List.getElem?_cons_zero]; rfl)
        go_simp
        refine hK.out _ _ trivial (fun hHeld2 => ?_)
        clear hK K0 hHeld
        have hHeld := hHeld2
        clear hHeld2
        try simp only [Act.put, List.setIfInBounds_toArray, List.set_cons_zero, List.set_cons_succ]
        refine wpAnyH_done (by kernel_rfl) ?_ _
        clear hHeld c81 f81
        go_wp2
        go_roundw
        case rel => exact ⟨k + 1, _, σ ++ σ8, by omega, by have := HN60.out; omega, by go_num, by rw [HTN.out], own_set own8 (by omega), by rw [List.map_append, e8, HROW.out.2, evsUp_next, HEV.out.2], bk8.set 1 _ (by simp), (((HBW.out.trans (hb5.mono (by have := HV3.out; omega))).alloc (Nat.le_trans (by have := HV3.out; omega) hb5.size) _).grown gr8 (Nat.le_trans (by have := HV3.out; omega) (Nat.le_trans hb5.size (size_one _ _))) (fun g hg => by have := (HROW.out.1.1.lt g hg).1; omega)).setCell (p := ⟨w.heap.size + 1 + 1, 1, none⟩) (Nat.le_refl _) _⟩
        case measure => simp [intOf]; omega
  ·have hge : decide ((k : Int) < (n : Int)) = false := by simp; omega
   have HMK := Lib.hid (show makeM start zs = ⟨[[112], [113], [114]], evsUp start zs k⟩ by unfold makeM; rw [show min zs.length 60 = k by have := HL.out; omega])
   obtain ⟨Av, nv, cv, ev, hend⟩ := make_end HR.out.1 HR.out.2.1 HR.out.2.2.2
   subst ev
   have b1 := HR.out.2.2.1
   have t0 := b1.cell 0 rfl
   have t1 := b1.cell 1 rfl
   have hres := (((Blk.new w #[.slice none 0 0, .slice none 0 0] 28 _ rfl).alloc (.cells #[.string { data := #[112] }, .string { data := #[113] }, .string { data := #[114] }] 9)).below HR.out.2.2.2 (by omega))
   have r0 := hres.cell 0 rfl
   have r1 := hres.cell 1 rfl
   have z0 := hres.fz 0 rfl
   have z1 := hres.fz 1 rfl
   have HND := Lib.hid hend
   clear hend hres b1
   go_wp2
   refine bodyPost_ret (v := .agg #[.slice (some ⟨w.heap.size + 1, 0, none⟩) 3 3, .slice Av nv cv]) (by simp [results, Tryz.results5, go_sem, r0, r1]) rfl ?_
   rw [HMK.out]
   exact ⟨_, _, _, _, _, _, rfl, (HND.out _ _).1, (HND.out _ _).2⟩
end Go.Proofs.YtdbgaccnejffpaaGreatDoor.Trace
