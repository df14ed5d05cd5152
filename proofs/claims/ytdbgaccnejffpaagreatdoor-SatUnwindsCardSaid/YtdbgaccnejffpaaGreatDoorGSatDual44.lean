/-
  The walks of the law's pile.add for each operation, build, Make and Reg. The walks of the law's build, Make and Reg. The walks of the law's Make and Reg.
    Made of several texts by wip/tools/mergetpl.py. By an AI agent.
  What the laws SatDual and SatUnwinds hold beside their calls (stage 15). By an AI agent. (Written by wip/tools/gendual15.py.)
-/
import Derived.Test.YtdbgaccnejffpaaGreatDoorGSatDual13
import Derived.Test.YtdbgaccnejffpaaGreatDoorGSatDual41
import Derived.Test.YtdbgaccnejffpaaGreatDoorGSatDual42
import Derived.Test.YtdbgaccnejffpaaGreatDoorGSatDual43
import Derived.Laws.Rows
import Derived.Test.YtdbgaccnejffpaaGreatDoorGSatDual37
import Derived.Test.YtdbgaccnejffpaaGreatDoorGSatDual21
import Derived.Test.YtdbgaccnejffpaaGreatDoorGSatDual39
/- The walks of the law's pile.add for each operation, build, Make and Reg. By an AI agent. -/
namespace Go.Proofs.YtdbgaccnejffpaaGreatDoor.Tree
open Go.RowKit Go.Proofs.YtdbgaccnejffpaaGreatDoor.Ints
theorem lawAdd (op arg : Int) (Af Ar : Option Addr) (nf cf nr cr base : Nat) (F R : List SL) (w : World) (hop : 0 ≤ op ∧ op ≤ 23) (ha : 0 ≤ arg ∧ arg ≤ 100000) (hnf : F.length = nf) (hnr : R.length = nr) (hf : nf ≤ 100000) (hr : nr ≤ 100000) (hb : base ≤ w.heap.size) (hsF : Small F) (hsR : Small R)
  (hp : PileX 0 0 w base (.slice Af nf cf) (.slice Ar nr cr) F R) :
  Calls Tryz.prog 21 #[.agg #[.slice Af nf cf, .slice Ar nr cr], .int .i64 op, .int .i64 arg] w (GotPile w base (addL op arg (F.map (·.1)) (R.map (·.1)))) := by
 have h : op = 0 ∨ op = 1 ∨ op = 2 ∨ op = 3 ∨ op = 4 ∨ op = 5 ∨ op = 6 ∨ op = 7 ∨ op = 8 ∨ op = 9 ∨ op = 10 ∨ op = 11 ∨ op = 12 ∨ op = 13 ∨ op = 14 ∨ op = 15 ∨ op = 16 ∨ op = 17 ∨ op = 18 ∨ op = 19 ∨ op = 20 ∨ op = 21 ∨ op = 22 ∨ op = 23 := by omega
 rcases h with rfl | rfl | rfl | rfl | rfl | rfl | rfl | rfl | rfl | rfl | rfl | rfl | rfl | rfl | rfl | rfl | rfl | rfl | rfl | rfl | rfl | rfl | rfl | rfl
 ·exact add_0 arg Af Ar nf cf nr cr base F R w ha hnf hnr hf hr hb hsF hsR hp
 ·exact add_1 arg Af Ar nf cf nr cr base F R w ha hnf hnr hf hr hb hsF hsR hp
 ·exact add_2 arg Af Ar nf cf nr cr base F R w ha hnf hnr hf hr hb hsF hsR hp
 ·exact add_3 arg Af Ar nf cf nr cr base F R w ha hnf hnr hf hr hb hsF hsR hp
 ·exact add_4 arg Af Ar nf cf nr cr base F R w ha hnf hnr hf hr hb hsF hsR hp
 ·exact add_5 arg Af Ar nf cf nr cr base F R w ha hnf hnr hf hr hb hsF hsR hp
 ·exact add_6 arg Af Ar nf cf nr cr base F R w ha hnf hnr hf hr hb hsF hsR hp
 ·exact add_7 arg Af Ar nf cf nr cr base F R w ha hnf hnr hf hr hb hsF hsR hp
 ·exact add_8 arg Af Ar nf cf nr cr base F R w ha hnf hnr hf hr hb hsF hsR hp
 ·exact add_9 arg Af Ar nf cf nr cr base F R w ha hnf hnr hf hr hb hsF hsR hp
 ·exact add_10 arg Af Ar nf cf nr cr base F R w ha hnf hnr hf hr hb hsF hsR hp
 ·exact add_11 arg Af Ar nf cf nr cr base F R w ha hnf hnr hf hr hb hsF hsR hp
 ·exact add_12 arg Af Ar nf cf nr cr base F R w ha hnf hnr hf hr hb hsF hsR hp
 ·exact add_13 arg Af Ar nf cf nr cr base F R w ha hnf hnr hf hr hb hsF hsR hp
 ·exact add_14 arg Af Ar nf cf nr cr base F R w ha hnf hnr hf hr hb hsF hsR hp
 ·exact add_15 arg Af Ar nf cf nr cr base F R w ha hnf hnr hf hr hb hsF hsR hp
 ·exact add_16 arg Af Ar nf cf nr cr base F R w ha hnf hnr hf hr hb hsF hsR hp
 ·exact add_17 arg Af Ar nf cf nr cr base F R w ha hnf hnr hf hr hb hsF hsR hp
 ·exact add_18 arg Af Ar nf cf nr cr base F R w ha hnf hnr hf hr hb hsF hsR hp
 ·exact add_19 arg Af Ar nf cf nr cr base F R w ha hnf hnr hf hr hb hsF hsR hp
 ·exact add_20 arg Af Ar nf cf nr cr base F R w ha hnf hnr hf hr hb hsF hsR hp
 ·exact add_21 arg Af Ar nf cf nr cr base F R w ha hnf hnr hf hr hb hsF hsR hp
 ·exact add_22 arg Af Ar nf cf nr cr base F R w ha hnf hnr hf hr hb hsF hsR hp
 ·exact add_23 arg Af Ar nf cf nr cr base F R w ha hnf hnr hf hr hb hsF hsR hp
def NoInt (w : World) (q : Nat) : Prop := ∀ (o : Nat) (k : IntKind) (x : Int), w.cell? ⟨q, o, none⟩ ≠ some (.int k x)
theorem noInt_two {w : World} {q : Nat} {A B : Option Addr} {n c m d : Nat} {T : TypeId} (h : w.heap[q]? = some (.cells #[.slice A n c, .slice B m d] T (0, 0))) : NoInt w q := fun o k x hc => by
 rw [cell_of_row w q o _ _ (0, 0) h] at hc
 match o, hc with
 | 0, hc => simp at hc
 | 1, hc => simp at hc
 | o + 2, hc => simp at hc
theorem Nodes.off {S : Nat → Prop} {w : World} {A : Option Addr} {l : List Nd} {q : Nat} (h : Nodes S w A l) (hq : NoInt w q) : Nodes (fun b => S b ∧ b ≠ q) w A l := fun h0 => by
 obtain ⟨b, off, e, hn⟩ := h h0
 refine ⟨b, off, e, fun j n hj => ?_⟩
 obtain ⟨x0, x1, x2, x3, s0, s1, s2, s3, K, c, x4, hK, hc, hm, hb, hk⟩ := hn j n hj
 refine ⟨x0, x1, x2, x3, s0, s1, s2, s3, K, c, x4, hK, hc, hm, ⟨hb, fun e => by subst e; exact hq _ _ _ x0⟩, fun a ea hl => ⟨hk a ea hl, fun e => ?_⟩⟩
 obtain ⟨b', off', e', hc'⟩ := hK.cell hl
 rw [ea] at e'
 injection e' with e'
 subst e'
 simp only at e
 subst e
 exact hq _ _ _ (hc' 0 hl)
theorem PileX.off {w : World} {base g : Nat} {fv rv : Value} {F R : List SL} (h : PileX 0 0 w base fv rv F R) (h0 : NoInt w g) (h1 : NoInt w (g + 1)) (hb : g + 2 ≤ base) : PileX g (g + 2) w base fv rv F R := by
 obtain ⟨a1, a2, a3, a4, a5⟩ := h
 have key : ∀ {v u : Value} {l : List SL}, OwnLists (Off u 0 0) w base v l → OwnLists (Off u g (g + 2)) w base v l := fun {v u l} hl =>
  ⟨hl.1, fun s hs => by
   obtain ⟨k1, k2, k3⟩ := hl.2 s hs
   refine ⟨((k1.off h0).off h1).mono fun b _ hb => ⟨⟨hb.1.1.1.1, ?_⟩, hb.1.1.2⟩, k2, k3⟩
   have := hb.1.2
   have := hb.2
   omega⟩
 exact ⟨key a1, key a2, a3, fun q hq => Or.inr (Nat.le_trans hb (a1.1.lt q hq).1), fun q hq => Or.inr (Nat.le_trans hb (a2.1.lt q hq).1)⟩
theorem PileX.lower {B D : Nat} {w : World} {base base' : Nat} {fv rv : Value} {F R : List SL} (h : PileX B D w base fv rv F R) (hb : base' ≤ base) : PileX B D w base' fv rv F R :=
 ⟨h.1.weaken hb, h.2.1.weaken hb, h.2.2⟩
theorem PileX.zero {B D : Nat} {w : World} {base : Nat} {fv rv : Value} {F R : List SL} (h : PileX B D w base fv rv F R) : PileX 0 0 w base fv rv F R := h.mono fun _ _ _ => Or.inr (Nat.zero_le _)
theorem heap_same {w : World} {g i : Nat} {cs : Array Value} {t : TypeId} {v : Value} (h : w.heap[g]? = some (.cells cs t (0, 0))) : (w.setCell ⟨g, i, none⟩ v).heap[g]? = some (.cells (cs.setIfInBounds i v) t (0, 0)) := heap_setCell_same w g i cs t v h
theorem heap_far {w : World} {g g' i : Nat} {o : Obj} {v : Value} (h : w.heap[g]? = some o) (hne : g ≠ g') : (w.setCell ⟨g', i, none⟩ v).heap[g]? = some o := (heap_setCell_other w ⟨g', i, none⟩ g v hne).trans h
def BuildAt (w : World) (T : TypeId) (fv rv : Value) (F R : List SL) (P : Ls × Ls) (wr : World) : Prop :=
 PileX w.heap.size (w.heap.size + 2) wr (w.heap.size + 2) fv rv F R ∧ (F.map (·.1), R.map (·.1)) = P ∧ Below w.heap.size w wr ∧ wr.heap[w.heap.size]? = some (.cells #[.slice none 0 0, .slice none 0 0] T (0, 0)) ∧ wr.heap[w.heap.size + 1]? = some (.cells #[fv, rv] T (0, 0)) ∧ w.heap.size + 2 ≤ wr.heap.size
theorem small_of {pl fm : Bool} {F : List SL} {k : Nat} (h : AllG fm pl (F.map (·.1))) (ht : tot (F.map (·.1)) ≤ k) (hk : k ≤ 1000) : Small F ∧ F.length ≤ k := by
 constructor
 ·intro s hs
  have hm : s.1 ∈ F.map (·.1) := List.mem_map_of_mem hs
  have hl := tot_mem hm
  exact ⟨by omega, movable_may (h _ hm).1 (by omega)⟩
 ·have := tot_len (l := F.map (·.1)) fun x hx => may_ne (h x hx).1
  rw [List.length_map] at this
  omega
theorem BuildAt.next {w wr w1 : World} {T : TypeId} {Af Ar : Option Addr} {nf cf nr cr : Nat} {F R : List SL} {P : Ls × Ls} {Af' Ar' : Option Addr} {nf' cf' nr' cr' : Nat} {F' R' : List SL} {P' : Ls × Ls} (h : BuildAt w T (.slice Af nf cf) (.slice Ar nr cr) F R P wr)
  (hp : PileX 0 0 w1 (w.heap.size + 2) (.slice Af' nf' cf') (.slice Ar' nr' cr') F' R') (hP : (F'.map (·.1), R'.map (·.1)) = P') (hb : Below (w.heap.size + 2) wr w1) :
  BuildAt w T (.slice Af' nf' cf') (.slice Ar' nr' cr') F' R' P' ((w1.setCell ⟨w.heap.size + 1, 0, none⟩ (.slice Af' nf' cf')).setCell ⟨w.heap.size + 1, 1, none⟩ (.slice Ar' nr' cr')) := by
 obtain ⟨-, -, a3, a4, a5, a6⟩ := h
 have b4 := (hb.block w.heap.size (by omega)).trans a4
 have b5 := (hb.block (w.heap.size + 1) (by omega)).trans a5
 refine ⟨((hp.off (noInt_two b4) (noInt_two b5) (Nat.le_refl _)).setCell _ _ (by simp)).setCell _ _ (by simp), hP, ((a3.trans (hb.mono (by omega))).setCell (by simp) _).setCell (by simp) _, heap_far (heap_far b4 (by omega)) (by omega), ?_, ?_⟩
 ·have := heap_same (i := 1) (v := .slice Ar' nr' cr') (heap_same (i := 0) (v := .slice Af' nf' cf') b5)
  simpa using this
 ·have := hb.size
  simp
  omega
end Go.Proofs.YtdbgaccnejffpaaGreatDoor.Tree
/- The walks of the law's build, Make and Reg. By an AI agent. -/
namespace Go.Proofs.YtdbgaccnejffpaaGreatDoor.Tree
open Go.RowKit Go.Proofs.YtdbgaccnejffpaaGreatDoor.Ints
theorem take_one (zs : List Int) (k : Nat) (hk : k < zs.length) : zs.take (k + 1) = zs.take k ++ [zs[k]?.getD 0] := by
 rw [List.take_succ_eq_append_getElem hk, List.getElem?_eq_getElem hk]; rfl
def GotBuild (w : World) (P : Ls × Ls) (e : Ending) (w' : World) : Prop :=
 ∃ (Af Ar : Option Addr) (cf cr : Nat) (F R : List SL), e = .returned (.agg #[.slice Af F.length cf, .slice Ar R.length cr]) ∧ PileX 0 0 w' w.heap.size (.slice Af F.length cf) (.slice Ar R.length cr) F R ∧ (F.map (·.1), R.map (·.1)) = P ∧ Below w.heap.size w w'
set_option maxHeartbeats 8000000 in
set_option maxRecDepth 100000 in
theorem lawBuild (A : Option Addr) (n c : Nat) (zs : List Int) (pl : Bool) (w : World) (h : Rd .u16 w A n zs) (hn : n ≤ maxLen) :
  Calls Tryz.prog 15 #[.slice A n c, .bool pl] w (GotBuild w (buildL pl zs)) := by
 have hn64 : (n : Int) ≤ 9223372036854775807 := by have : maxLen = 9223372036854775807 := rfl; omega
 have HR := Lib.hid h
 have HZ := Lib.hid (show ∀ z ∈ zs, 0 ≤ z ∧ z ≤ 65535 from fun z hz => wf_u16 (h.all z hz))
 have HL := Lib.hid h.len
 clear h hn
 go_enter Tryz.func15, Tryz.ntmps15
 go_wp2
 go_loopw [12] (fun i wr => ∃ (k : Nat) (Af Ar : Option Addr) (cf cr : Nat) (F R : List SL), k ≤ n ∧ k ≤ 100 ∧ i = .int .i64 k ∧ Hid (BuildAt w 50 (.slice Af F.length cf) (.slice Ar R.length cr) F R (buildN pl (zs.take k)) wr)) (fun i _ => n - (intOf i).toNat)
 case atStart =>
  refine ⟨0, none, none, 0, 0, [], [], Nat.zero_le _, by omega, rfl, ?_⟩
  refine ⟨⟨OwnLists.nil _ _ _, OwnLists.nil _ _ _, Or.inl rfl, fun q hq => by simp [Value.ownBlock] at hq, fun q hq => by simp [Value.ownBlock] at hq⟩, rfl, add_two w _ _, blk_alloc (new_at w _), new_at2 w _ _, by simp⟩
 case round =>
  obtain ⟨k, Af, Ar, cf, cr, F, R, hk, hk1, rfl, HBA⟩ := hrel
  obtain ⟨q0, q1, q2, q3, q4, q5⟩ := HBA.out
  have hok := build_ok pl zs HZ.out k (by have := HL.out; omega)
  rw [← q1] at hok
  obtain ⟨hsF, hlF⟩ := small_of (k := 100) hok.f (by have := hok.t; simp only at this; omega) (by omega)
  obtain ⟨hsR, hlR⟩ := small_of (k := 100) hok.r (by have := hok.t; simp only at this; omega) (by omega)
  have c00 := blk_cell q4 0 _ rfl
  have c01 := blk_cell q4 1 _ rfl
  have d00 := blk_cell q3 0 _ rfl
  have d01 := blk_cell q3 1 _ rfl
  have e00 := blk_frozen q3 0
  have e01 := blk_frozen q3 1
  by_cases hkn : k < n ∧ k < 100
  ·obtain ⟨hkn, hk100⟩ := hkn
   have hkn' : (k : Int) < (n : Int) := by omega
   have hk100' : ((k : Int) == 100) = false := beq_eq_false_iff_ne.2 (by omega)
   obtain ⟨b, off, e, hc⟩ := (HR.out.below q2).cell (by omega)
   have ck := hc k hkn
   obtain ⟨z, hz⟩ : ∃ z, zs[k]?.getD 0 = z := ⟨_, rfl⟩
   have hzb := HZ.out z (by rw [← hz, List.getElem?_eq_getElem (by have := HL.out; omega)]; exact List.getElem_mem _)
   rw [hz] at ck
   obtain ⟨hz0, hz1⟩ := hzb
   obtain ⟨o, ho⟩ : ∃ o : Nat, z % 24 = (o : Int) := Int.eq_ofNat_of_zero_le (by omega)
   have ho24 : o < 24 := by omega
   have HTK := Lib.hid (show buildN pl (zs.take (k + 1)) = addL (opOf pl z) (z / 24) (F.map (·.1)) (R.map (·.1)) by rw [take_one zs k (by have := HL.out; omega), hz, build_snoc, ← q1])
   have hop := op_range pl z
   have HAD := Lib.hid (lawAdd (opOf pl z) (z / 24) Af Ar F.length cf R.length cr (w.heap.size + 2) F R wr hop.1 (by omega) rfl rfl (by omega) (by omega) q5 hsF hsR q0.zero)
   have HPL := Lib.hid (fun W => lawPlainer o ho24 W)
   have hopz : opOf pl z = if pl = true then plainer (o : Int) else (o : Int) := by unfold opOf; rw [ho]
   rw [hopz] at HAD
   have HB2 := Lib.hid q2
   have HQ3 := Lib.hid q3
   have HQ4 := Lib.hid q4
   have HHO := Lib.hid ho
   subst e
   clear hc hz hop hopz hok hsF hsR hlF hlR q0 q1 q2 q3 q4 d00 d01 e00 e01
   cases pl with
   | true =>
    rw [if_pos rfl] at HAD
    have ho' := HHO.out
    go_wp2_with (first
     | (go_at_call 20; refine (HPL.out _).mono ?_; rintro e w' ⟨rfl, rfl⟩)
     | (go_at_call 21; refine HAD.out.mono ?_; rintro e w1 ⟨fv, rv, F1, R1, rfl, hp1, hP1, hb1⟩; obtain ⟨A1, c1, rfl, -, -, -, -⟩ := hp1.1.slice; obtain ⟨A2, c2, rfl, -, -, -, -⟩ := hp1.2.1.slice; have x4 := (hb1.block (w.heap.size + 1) (by omega)).trans HQ4.out; have y0 := blk_cell x4 0 _ rfl; have y1 := blk_cell x4 1 _ rfl; have y2 := blk_frozen x4 0; have y3 := blk_frozen x4 1; have HN := Lib.hid (BuildAt.next HBA.out hp1 hP1 hb1); clear hp1 hP1 hb1 x4))
    go_roundw
    case rel => exact ⟨k + 1, A1, A2, c1, c2, F1, R1, by omega, by omega, by go_num, by rw [HTK.out]; unfold opOf; rw [if_pos rfl, HHO.out]; exact HN⟩
    case measure => simp [intOf]; omega
   | false =>
    rw [if_neg (by decide)] at HAD
    have ho' := HHO.out
    go_wp2_with (go_at_call 21; refine HAD.out.mono ?_; rintro e w1 ⟨fv, rv, F1, R1, rfl, hp1, hP1, hb1⟩; obtain ⟨A1, c1, rfl, -, -, -, -⟩ := hp1.1.slice; obtain ⟨A2, c2, rfl, -, -, -, -⟩ := hp1.2.1.slice; have x4 := (hb1.block (w.heap.size + 1) (by omega)).trans HQ4.out; have y0 := blk_cell x4 0 _ rfl; have y1 := blk_cell x4 1 _ rfl; have y2 := blk_frozen x4 0; have y3 := blk_frozen x4 1; have HN := Lib.hid (BuildAt.next HBA.out hp1 hP1 hb1); clear hp1 hP1 hb1 x4)
    go_roundw
    case rel => exact ⟨k + 1, A1, A2, c1, c2, F1, R1, by omega, by omega, by go_num, by rw [HTK.out]; unfold opOf; rw [if_neg (by decide), HHO.out]; exact HN⟩
    case measure => simp [intOf]; omega
  ·have hT : zs.take k = zs.take 100 := by
    by_cases h100 : k = 100
    ·rw [h100]
    ·rw [List.take_of_length_le (by have := HL.out; omega), List.take_of_length_le (by have := HL.out; omega)]
   have HF := Lib.hid (show (F.map (·.1), R.map (·.1)) = buildL pl zs by unfold buildL; rw [← hT]; exact q1)
   have hr0 := heap_same (i := 1) (v := .slice Ar R.length cr) (heap_same (i := 0) (v := .slice Af F.length cf) q3)
   have r0 := blk_cell hr0 0 (.slice Af F.length cf) (by simp)
   have r1 := blk_cell hr0 1 (.slice Ar R.length cr) (by simp)
   have HPE := Lib.hid (((q0.setCell ⟨w.heap.size, 0, none⟩ (.slice Af F.length cf) (by simp)).setCell ⟨w.heap.size, 1, none⟩ (.slice Ar R.length cr) (by simp)).zero.lower (show w.heap.size ≤ w.heap.size + 2 by omega))
   have HBE := Lib.hid ((q2.setCell (p := ⟨w.heap.size, 0, none⟩) (Nat.le_refl _) (.slice Af F.length cf)).setCell (p := ⟨w.heap.size, 1, none⟩) (Nat.le_refl _) (.slice Ar R.length cr))
   by_cases hkn2 : k < n
   ·have hkn' : (k : Int) < (n : Int) := by omega
    have hk100' : ((k : Int) == 100) = true := by rw [show k = 100 by omega]; rfl
    obtain ⟨b, off, e, hc⟩ := (HR.out.below q2).cell (by omega)
    have ck := hc k hkn2
    subst e
    clear hc hT hok hsF hsR hlF hlR q0 q1 q2 q3 q4 hr0 hkn
    go_wp2
    refine bodyPost_ret (v := .agg #[.slice Af F.length cf, .slice Ar R.length cr]) (by simp [results, Tryz.results15, go_sem, r0, r1]) rfl ⟨Af, Ar, cf, cr, F, R, rfl, HPE.out, HF.out, HBE.out⟩
   ·have hge : decide ((k : Int) < (n : Int)) = false := by simp; omega
    clear hT hok hsF hsR hlF hlR q0 q1 q2 q3 q4 hr0 hkn
    go_wp2
    refine bodyPost_ret (v := .agg #[.slice Af F.length cf, .slice Ar R.length cr]) (by simp [results, Tryz.results15, go_sem, r0, r1]) rfl ⟨Af, Ar, cf, cr, F, R, rfl, HPE.out, HF.out, HBE.out⟩
end Go.Proofs.YtdbgaccnejffpaaGreatDoor.Tree
/- The walks of the law's Make and Reg. By an AI agent. -/
namespace Go.Proofs.YtdbgaccnejffpaaGreatDoor.Tree
open Go.RowKit Go.Proofs.YtdbgaccnejffpaaGreatDoor.Ints
theorem last_at_lists {S : Nat → Prop} {w : World} {base : Nat} {A : Option Addr} {c p : Nat} {F : List SL} (h : OwnLists S w base (.slice A F.length c) F) (hl : F.length = p + 1) :
  ∃ g l K cK, A = some ⟨g, 0, none⟩ ∧ F[p]? = some (l, K, cK) ∧ w.cell? ⟨g, p, none⟩ = some (.slice K l.length cK) ∧ Nodes Any w K l ∧ l.length ≤ cK ∧ cK ≤ maxLen := by
 obtain ⟨s, hs⟩ : ∃ s, F[p]? = some s := ⟨_, List.getElem?_eq_getElem (by omega)⟩
 obtain ⟨l, K, cK⟩ := s
 obtain ⟨g, e, hc⟩ := h.cell (by omega)
 obtain ⟨k1, k2, k3⟩ := h.2 _ (List.mem_of_getElem? hs)
 exact ⟨g, l, K, cK, e, hs, hc p _ hs, k1.any, k2, k3⟩
theorem lastOr_zero {F : List SL} {d : List Nd} (h : F.length = 0) : lastOr (F.map (·.1)) d = d := by
 unfold lastOr
 rw [if_pos (by rw [List.length_map]; exact h)]
theorem lastOr_some {F : List SL} {d l : List Nd} {K : Option Addr} {c p : Nat} (h : F.length = p + 1) (hs : F[p]? = some (l, K, c)) : lastOr (F.map (·.1)) d = l := by
 unfold lastOr
 rw [if_neg (by rw [List.length_map]; omega), List.length_map, h, Nat.add_sub_cancel, List.getD_eq_getElem?_getD, List.getElem?_map, hs]
 rfl
theorem got_single {w w1 : World} {k : Int} (hk : 0 ≤ k ∧ k ≤ 100) (hb : Below w.heap.size w w1) (o : Obj) : GotNodes Any w [kindNd k] (.returned (.slice (some ⟨w1.heap.size + 1, 0, none⟩) 1 1)) ((w1.alloc o).alloc (.cells #[.int .i64 k, .string { data := #[] }, .int .i64 0, .int .i64 0, .slice none 0 0] 37)) := by
 have hbx : BoxAt ((w1.alloc o).alloc (.cells #[.int .i64 k, .string { data := #[] }, .int .i64 0, .int .i64 0, .slice none 0 0] 37)) (w1.heap.size + 1) #[.int .i64 k, .string { data := #[] }, .int .i64 0, .int .i64 0, .slice none 0 0] := new_at2 w1 _ _
 obtain ⟨h1, h2, h3⟩ := one_list (S := Any) (nd := kindNd k) hbx rfl (kind_small k hk) trivial
 exact ⟨_, 1, rfl, h1, h2, h3, (hb.alloc hb.size _).alloc (le_alloc hb.size) _⟩
set_option maxHeartbeats 4000000 in
set_option maxRecDepth 100000 in
theorem lawMake (A : Option Addr) (n c : Nat) (zs : List Int) (pl : Bool) (w : World) (h : Rd .u16 w A n zs) (hn : n ≤ maxLen) :
  Calls Tryz.prog 6 #[.slice A n c, .bool pl] w (GotNodes Any w (makeL pl zs)) := by
 have HBD := Lib.hid (lawBuild A n c zs pl w h hn)
 have HOK := Lib.hid (buildL_ok pl zs fun z hz => wf_u16 (h.all z hz))
 clear h hn
 go_enter Tryz.func6, Tryz.ntmps6
 go_wp2_with fail
 refine HBD.out.mono ?_
 rintro e w1 ⟨Af, Ar, cf, cr, F, R, rfl, hp, hP, hb⟩
 have hm : makeL pl zs = lastOr (F.map (·.1)) [kindNd 1] := by unfold makeL; rw [← hP]
 have hz : F.length ≤ 100000 ∧ R.length ≤ 100000 := by
  have hok := HOK.out
  rw [← hP] at hok
  have h1 := (small_of (k := 100) hok.f (by have := hok.t; simp only at this; omega) (by omega)).2
  have h2 := (small_of (k := 100) hok.r (by have := hok.t; simp only at this; omega) (by omega)).2
  omega
 obtain ⟨hz1, hz2⟩ := hz
 have HP := Lib.hid hp
 have HM := Lib.hid hm
 have HB := Lib.hid hb
 clear hp hP hm hb
 obtain ⟨q, hq⟩ : ∃ q, F.length = q := ⟨_, rfl⟩
 cases q with
 | zero =>
  have HR := Lib.hid (lastOr_zero (d := [kindNd 1]) hq)
  rw [hq]
  clear hq
  go_wp2
  go_ret
  rw [HM.out, HR.out]
  exact got_single (by omega) HB.out _
 | succ p =>
  obtain ⟨g, l, K, cK, e, hs, hc, hN, hl, hm⟩ := last_at_lists HP.out.1 hq
  have HR := Lib.hid (lastOr_some (d := [kindNd 1]) hq hs)
  have HN := Lib.hid hN
  have HLM := Lib.hid (And.intro hl hm)
  have hpp : (p : Int) ≤ 99999 := by omega
  have hp2 : ((p : Int) + 1 == 0) = false := beq_eq_false_iff_ne.2 (by omega)
  have hp0 : (0 : Int) ≤ (p : Int) := by omega
  have hca := below_cell ((Below.refl w1.heap.size w1).alloc (Nat.le_refl _) (.cells #[.slice Af F.length cf, .slice Ar R.length cr] 50)) hc
  rw [hq] at hca ⊢
  subst e
  clear hq hs hN hl hm hz1 hz2
  go_wp2
  go_ret
  rw [HM.out, HR.out]
  exact ⟨K, cK, rfl, HN.out.below ((Below.refl _ _).alloc (Nat.le_refl _) _), HLM.out.1, HLM.out.2, HB.out.alloc HB.out.size _⟩
end Go.Proofs.YtdbgaccnejffpaaGreatDoor.Tree

namespace Go.Proofs.YtdbgaccnejffpaaGreatDoor.Sat
open Go.RowKit Go.Proofs.YtdbgaccnejffpaaGreatDoor.Ints Go.Proofs.YtdbgaccnejffpaaGreatDoor.Mem Go.Proofs.YtdbgaccnejffpaaGreatDoor.Src Go.Proofs.YtdbgaccnejffpaaGreatDoor.Paths Go.Proofs.YtdbgaccnejffpaaGreatDoor.Late Go.Proofs.YtdbgaccnejffpaaGreatDoor.Trace
theorem ndO_timed {k lo hi : Int} (hk : 8 ≤ k ∧ k ≤ 17) (hs : Ival.mayS lo hi = true) : Tree.fieldsB (ndO k lo hi) = true := by
 unfold Tree.fieldsB Tree.nameOkB Tree.okSpan Tree.timed ndO
 simp only
 rw [(Tree.kinds_range k).2 (by omega), if_neg (show ¬ k = 3 by omega), decide_eq_true hk, if_pos rfl, hs]
 rfl
theorem span_may (n : Int) (h : 0 ≤ n ∧ n < 2700) : Ival.mayS (Tree.spanLo n) (Tree.spanHi n) = true := by
 unfold Ival.mayS Tree.spanHi Tree.spanLo
 rw [decide_eq_true_eq]
 split <;> split <;> omega
structure Du (w : World) (gT gS : Nat) (NA : Option Addr) (nn nc : Nat) (EA : Option Addr) (ne ec : Nat) (t : Tr) (lo hi : Int) : Prop where
 tr : TrOk Any w NA nn nc EA ne ec t
 x0 : w.cell? ⟨gT, 0, none⟩ = some (.slice NA nn nc)
 x1 : w.cell? ⟨gT, 1, none⟩ = some (.slice EA ne ec)
 s0 : w.cell? ⟨gS, 0, none⟩ = some (.int .i64 lo)
 s1 : w.cell? ⟨gS, 1, none⟩ = some (.int .i64 hi)
 nv : NoneV w
theorem Du.below {w w' : World} {gT gS : Nat} {NA : Option Addr} {nn nc : Nat} {EA : Option Addr} {ne ec : Nat} {t : Tr} {lo hi : Int} (h : Du w gT gS NA nn nc EA ne ec t lo hi) (hb : Below w.heap.size w w') : Du w' gT gS NA nn nc EA ne ec t lo hi :=
 ⟨h.tr.below hb, below_cell hb h.x0, below_cell hb h.x1, below_cell hb h.s0, below_cell hb h.s1, h.nv.below hb⟩
theorem nodes_fl {w : World} {A : Option Addr} {c : Nat} {fm pl : Bool} {l : List Tree.Nd} (h : Tree.Nodes Tree.Any w A l) (hc : l.length ≤ c ∧ c ≤ maxLen) (hg : Tree.G fm pl l) : FL w A l.length c fm (foOf l) := ⟨l, h, rfl, hc, hg.1, hg.2.1, rfl⟩
abbrev kcells (k : Int) : Array Value := #[.int .i64 k, .string { data := #[] }, .int .i64 0, .int .i64 0, .slice none 0 0]
theorem one_fl {w : World} {k : Int} (hk : k = 1 ∨ k = 2) : FL (w.alloc (.cells (kcells k) 37)) (some ⟨w.heap.size, 0, none⟩) 1 1 true (.z k []) := by
 have hbx : Tree.BoxAt (w.alloc (.cells (kcells k) 37)) w.heap.size (kcells k) := Tree.BoxAt.new w _
 obtain ⟨h1, h2, h3⟩ := Tree.one_list (S := Tree.Any) (nd := Tree.kindNd k) hbx rfl (Tree.kind_small k (by omega)) trivial
 rcases hk with rfl | rfl
 ·exact ⟨[Tree.kindNd 1], h1, rfl, ⟨h2, h3⟩, by decide, by decide, by rfl⟩
 ·exact ⟨[Tree.kindNd 2], h1, rfl, ⟨h2, h3⟩, by decide, by decide, by rfl⟩
theorem keep6 {V V' : World} {a b c d e f i j k l m n : Nat} {A B C D E F : Value} (hb : Below V.heap.size V V') (h : ((V.cell? ⟨a, i, none⟩ = some A ∧ V.cell? ⟨b, j, none⟩ = some B) ∧ V.cell? ⟨c, k, none⟩ = some C ∧ V.cell? ⟨d, l, none⟩ = some D) ∧ V.cell? ⟨e, m, none⟩ = some E ∧ V.cell? ⟨f, n, none⟩ = some F) :
  ((V'.cell? ⟨a, i, none⟩ = some A ∧ V'.cell? ⟨b, j, none⟩ = some B) ∧ V'.cell? ⟨c, k, none⟩ = some C ∧ V'.cell? ⟨d, l, none⟩ = some D) ∧ V'.cell? ⟨e, m, none⟩ = some E ∧ V'.cell? ⟨f, n, none⟩ = some F :=
 ⟨⟨⟨below_cell hb h.1.1.1, below_cell hb h.1.1.2⟩, below_cell hb h.1.2.1, below_cell hb h.1.2.2⟩, below_cell hb h.2.1, below_cell hb h.2.2⟩
end Go.Proofs.YtdbgaccnejffpaaGreatDoor.Sat
