/-
  The walks of the landed reader's pop, finish and end. By an AI agent.
  The walks of the landed reader's finish and end. By an AI agent.
-/
import Derived.Test.YtnoghlhggeffnaaDoorGParseMade32
import Derived.Test.YtnoghlhggeffnaaDoorGParseMade14
namespace Go.Proofs.YtnoghlhggeffnaaDoor.Parse
open Go.RowKit Go.Proofs.YtnoghlhggeffnaaDoor.Ints Go.Proofs.YtnoghlhggeffnaaDoor.Lex Go.Proofs.YtnoghlhggeffnaaDoor.Tree

/-! ### what a reader keeps -/
structure EntOk (x : Ent) : Prop where
  kinds : (x.kind = 0 ∧ x.kids = 0) ∨ (1 ≤ x.kind ∧ x.kind ≤ 22 ∧ (x.kids = 1 ∨ x.kids = 2))
  lo : small64 x.lo
  hi : small64 x.hi
  depth : x.depth ≤ 40
  level : x.level ≤ 5
def need (o : List Ent) : Nat := (o.map fun x => x.kids - 1).sum
theorem need_cons (x : Ent) (K : List Ent) : need (x :: K) = (x.kids - 1) + need K := by unfold need; rw [List.map_cons, List.sum_cons]
theorem need_le : ∀ (o : List Ent), (∀ x ∈ o, EntOk x) → need o ≤ o.length
  | [], _ => Nat.le_refl _
  | x :: K, h => by
    rw [need_cons, List.length_cons]
    have := need_le K fun y hy => h y (List.mem_cons_of_mem _ hy)
    rcases (h x List.mem_cons_self).kinds with ⟨-, h1⟩ | ⟨-, -, h1 | h1⟩ <;> omega
structure Good (M e : Nat) (σ : PS) : Prop where
  ents : ∀ x ∈ σ.opn, EntOk x
  bot : ∃ K g, σ.opn = K ++ [ent0 g]
  roots : ∀ z ∈ σ.roots, 0 ≤ z ∧ z < (σ.nodes.length : Int)
  need : need σ.opn + e = σ.roots.length
  size : σ.opn.length + σ.nodes.length + σ.rest.length ≤ M
theorem Good.ok {M e : Nat} {σ : PS} (h : Good M e σ) (hM : M ≤ 5000) (he : e ≤ 1) : RootsOk σ := by
  have h1 := need_le _ h.ents
  have h2 := h.need
  have h3 := h.size
  exact ⟨by omega, by omega, fun z hz => by have := h.roots z hz; omega⟩
theorem Good.split {M e : Nat} {σ : PS} (h : Good M e σ) : ∃ x K, σ.opn = x :: K := by
  obtain ⟨K, g, hK⟩ := h.bot
  cases hK' : σ.opn with
  | nil => rw [hK'] at hK; simp at hK
  | cons x K => exact ⟨x, K, rfl⟩
theorem pop_good {M : Nat} {σ : PS} (h : Good M 1 σ) {x : Ent} {K : List Ent} (hx : σ.opn = x :: K) (hb : ∃ K' g, K = K' ++ [ent0 g]) : Good M 1 (popM σ) := by
  have hents : ∀ y ∈ K, EntOk y := fun y hy => h.ents y (by rw [hx]; exact List.mem_cons_of_mem _ hy)
  have hn := h.need
  have hs := h.size
  rw [hx] at hn hs
  rw [need_cons] at hn
  rw [List.length_cons] at hs
  have hxk := (h.ents x (by rw [hx]; exact List.mem_cons_self)).kinds
  unfold popM
  rw [hx]
  simp only
  unfold popX
  by_cases h0 : x.kind = 0
  · rw [if_pos h0]
    have hk0 : x.kids = 0 := by rcases hxk with ⟨-, h1⟩ | ⟨h1, -⟩ <;> omega
    exact ⟨hents, hb, h.roots, by show need K + 1 = σ.roots.length; omega, by show K.length + σ.nodes.length + σ.rest.length ≤ M; omega⟩
  · rw [if_neg h0]
    have hk1 : x.kids = 1 ∨ x.kids = 2 := by rcases hxk with ⟨h1, -⟩ | ⟨-, -, h1⟩ <;> omega
    refine ⟨hents, hb, fun z hz => ?_, ?_, ?_⟩
    · rw [show (putM (entNd x) x.kids { σ with opn := K }).nodes = σ.nodes ++ [{ entNd x with kids := (σ.roots.take x.kids).reverse }] from rfl, List.length_append, List.length_singleton]
      rcases List.mem_cons.1 hz with rfl | hz
      · show (0 : Int) ≤ (σ.nodes.length : Int) ∧ (σ.nodes.length : Int) < ((σ.nodes.length + 1 : Nat) : Int)
        omega
      · have := h.roots z (List.mem_of_mem_drop hz); omega
    · show need K + 1 = ((σ.nodes.length : Int) :: σ.roots.drop x.kids).length
      rw [List.length_cons, List.length_drop]
      omega
    · show K.length + (σ.nodes ++ [_]).length + σ.rest.length ≤ M
      rw [List.length_append, List.length_singleton]
      omega

set_option maxHeartbeats 8000000 in
set_option maxRecDepth 100000 in
theorem landPop (bx : Option Nat) (base g M : Nat) (ts : List Tk) (σ : PS) (x : Ent) (K : List Ent) (w : World) (hlow : Low bx w) (h : PMemE (Aw bx) w base g ts σ) (hg : Good M 1 σ) (hM : M ≤ 5000) (hx : σ.opn = x :: K) :
    Calls Tryd.prog 61 #[.pointer (some ⟨g, 0, none⟩)] w fun e w' => e = .returned (.tuple #[]) ∧ PMemE (Aw bx) w' base g ts (popM σ) ∧ Fr bx base w w' := by
  have hKl : K.length ≤ 5000 := by have := hg.size; rw [hx, List.length_cons] at this; omega
  have HT := Lib.hid (landTop base g ts σ x K w h hx (by omega))
  have HLO := Lib.hid hlow
  have HM := Lib.hid h
  have HG := Lib.hid hg
  have HX := Lib.hid hx
  have HL := Lib.hid (show M ≤ 5000 ∧ K.length ≤ 5000 from ⟨hM, hKl⟩)
  clear hlow h hg hM hx hKl
  go_enter Tryd.func61, Tryd.ntmps61
  go_wp2_with fail
  refine HT.out.mono ?_
  rintro e w1 ⟨rfl, hb⟩
  go_wp2_with fail
  have hb2 := hb.alloc hb.size (.cells #[.int .i64 x.kind, .int .i64 x.lo, .int .i64 x.hi, .int .i64 x.kids, .int .i64 x.level, .string (Lex.bytes x.closer), .bool x.reg, .int .i64 x.depth] 62)
  have hx2 := Blk.new w1 #[.int .i64 x.kind, .int .i64 x.lo, .int .i64 x.hi, .int .i64 x.kids, .int .i64 x.level, .string (Lex.bytes x.closer), .bool x.reg, .int .i64 x.depth] 62 _ rfl
  have hM2 := HM.out.later hb2
  have hw1 := hb.size
  obtain ⟨W, hW⟩ : ∃ W, w1.alloc (.cells #[.int .i64 x.kind, .int .i64 x.lo, .int .i64 x.hi, .int .i64 x.kids, .int .i64 x.level, .string (Lex.bytes x.closer), .bool x.reg, .int .i64 x.depth] 62) = W := ⟨_, rfl⟩
  rw [hW] at hb2 hx2 hM2 ⊢
  obtain ⟨B, hB⟩ : ∃ B, w1.heap.size = B := ⟨_, rfl⟩
  rw [hB] at hx2 hw1 ⊢
  obtain ⟨tv, ov, nv, rv, SN, hm⟩ := hM2
  obtain ⟨q, c, rfl, hc, hmx, -⟩ := hm.top HX.out
  have k4 := hm.blk.cell 4 rfl
  have y4 := hm.blk.fz 4 rfl
  have hcut := hm.cut HX.out rfl
  obtain ⟨m, hml⟩ : ∃ m, K.length = m := ⟨_, rfl⟩
  rw [hml] at k4 hcut hc
  have hm1 : (m : Int) ≤ 5000 := by have := HL.out.2; omega
  have hm0 : (0 : Int) ≤ (m : Int) := by omega
  have hmc : (m : Int) ≤ (c : Int) := by omega
  have hgx : g < B := Nat.lt_of_lt_of_le HM.out.hg.2 hw1
  have HC := Lib.hid hcut
  have HB2 := Lib.hid hb2
  have HX2 := Lib.hid (hx2.other ⟨g, 4, none⟩ (.slice (some ⟨q, 0, none⟩) m c) (fun e => by have e : B = g := e; omega)).drew
  have z0 := HX2.out.cell 0 rfl
  have z1 := HX2.out.cell 1 rfl
  have z2 := HX2.out.cell 2 rfl
  have z3 := HX2.out.cell 3 rfl
  have HGB := Lib.hid (And.intro hgx hw1)
  clear hb hb2 hx2 hm hcut hw1 hW hB hc hmx hml hgx
  have HMC := Lib.hid (show PMemE (Aw bx) (W.setCell ⟨g, 4, none⟩ (.slice (some ⟨q, 0, none⟩) m c)).drew base g ts { σ with opn := K } from ⟨_, _, _, _, _, HC.out.later (Below.refl _ _).drew⟩)
  have HFR := Lib.hid (show Fr bx base w (W.setCell ⟨g, 4, none⟩ (.slice (some ⟨q, 0, none⟩) m c)).drew from ((Fr.later HB2.out HM.out.base).setCell (p := ⟨g, 4, none⟩) HM.out.hg.1 HC.out.sg _).trans (Fr.later (Below.refl _ _).drew (Nat.le_trans HM.out.base (by simpa using HB2.out.size))))
  by_cases hk0 : x.kind = 0
  · have e0 : ((x.kind : Int) != 0) = false := by rw [hk0]; rfl
    have HP := Lib.hid (show popM σ = { σ with opn := K } by unfold popM; rw [HX.out]; simp only; unfold popX; rw [if_pos hk0])
    clear hk0
    go_region
    go_wp2_with fail
    go_end0
    rw [HP.out]
    exact ⟨rfl, HMC.out, HFR.out⟩
  · have e0 : ((x.kind : Int) != 0) = true := by simp; omega
    have HP := Lib.hid (show popM σ = putM (entNd x) x.kids { σ with opn := K } by unfold popM; rw [HX.out]; simp only; unfold popX; rw [if_neg hk0])
    have hxm := HG.out.ents x (by rw [HX.out]; exact List.mem_cons_self)
    have hn := HG.out.need
    rw [HX.out, need_cons] at hn
    have HQ := Lib.hid (landPut bx base g ts { σ with opn := K } (entNd x) x.kids _ (HLO.out.mono HFR.out.below.size) HMC.out (HG.out.ok HL.out.1 (Nat.le_refl _)) (by show x.kids ≤ σ.roots.length; rcases hxm.kinds with ⟨h1, -⟩ | ⟨-, -, h1 | h1⟩ <;> omega) ⟨by show small64 (x.kind : Int); unfold small64; have := hxm.kinds; omega, hxm.lo, hxm.hi, Nat.zero_le _⟩)
    clear hk0 hxm hn
    go_region
    go_wp2_with fail
    refine HQ.out.mono ?_
    rintro e w5 ⟨rfl, hm5, hf5⟩
    go_wp2_with fail
    go_end0
    rw [HP.out]
    exact ⟨rfl, hm5, HFR.out.trans hf5⟩
end Go.Proofs.YtnoghlhggeffnaaDoor.Parse

namespace Go.Proofs.YtnoghlhggeffnaaDoor.Parse
open Go.RowKit Go.Proofs.YtnoghlhggeffnaaDoor.Ints Go.Proofs.YtnoghlhggeffnaaDoor.Lex Go.Proofs.YtnoghlhggeffnaaDoor.Tree

/-- How much is open, as memory has it. -/
def lenAt (w : World) (g : Nat) : Nat := match w.cell? ⟨g, 4, none⟩ with
  | some (.slice _ n _) => n
  | _ => 0
theorem PMemE.len {S : Nat → Prop} {w : World} {base g : Nat} {ts : List Tk} {σ : PS} (h : PMemE S w base g ts σ) : lenAt w g = σ.opn.length := by
  obtain ⟨tv, ov, nv, rv, SN, h⟩ := h
  obtain ⟨A, c, rfl, -⟩ := own_sliceN h.opn
  unfold lenAt
  rw [h.blk.cell 4 rfl]
theorem popM_eq {σ : PS} {x : Ent} {K : List Ent} (h : σ.opn = x :: K) : popM σ = popX x K σ := by unfold popM; rw [h]
theorem Good.above {M e : Nat} {σ : PS} (h : Good M e σ) {x : Ent} {K : List Ent} (hx : σ.opn = x :: K) (hl : x ≠ ent0 x.reg) : ∃ K' g, K = K' ++ [ent0 g] := by
  obtain ⟨K', g, hb⟩ := h.bot
  rw [hx] at hb
  cases K' with
  | nil =>
    exfalso
    injection hb with h1 h2
    exact hl (by rw [h1]; rfl)
  | cons y K' =>
    injection hb with h1 h2
    exact ⟨K', g, h2⟩
theorem fin_good {M lev : Nat} (hl : 1 ≤ lev) : ∀ (o : List Ent) (σ : PS), σ.opn = o → Good M 1 σ → Good M 1 (finM lev σ)
  | [], σ, ho, h => by
    obtain ⟨x, K, hx⟩ := h.split
    rw [ho] at hx
    cases hx
  | x :: K, σ, ho, h => by
    by_cases hx : lev ≤ x.level
    · rw [fin_pop ho hx, ← popM_eq ho]
      exact fin_good hl K (popM σ) (by rw [popM_eq ho]; exact pop_opn x K σ) (pop_good h ho (h.above ho (fun e => by rw [e] at hx; exact absurd hx (by show ¬ lev ≤ 0; omega))))
    · rw [fin_stop ho (by omega)]
      exact h

set_option maxHeartbeats 4000000 in
theorem landFinish (bx : Option Nat) (base g M : Nat) (ts : List Tk) (σ : PS) (lev : Nat) (w : World) (hlow : Low bx w) (h : PMemE (Aw bx) w base g ts σ) (hg : Good M 1 σ) (hM : M ≤ 5000) (hl : 1 ≤ lev) :
    Calls Tryd.prog 46 #[.pointer (some ⟨g, 0, none⟩), .int .i64 (lev : Int)] w fun e w' => e = .returned (.tuple #[]) ∧ PMemE (Aw bx) w' base g ts (finM lev σ) ∧ Fr bx base w w' := by
  have HLO := Lib.hid hlow
  have HM := Lib.hid h
  have HG := Lib.hid hg
  have HL := Lib.hid (And.intro hM hl)
  clear hlow h hg hM hl
  go_enter Tryd.func46, Tryd.ntmps46
  go_wp2_with fail
  go_loopw [] (fun wr => ∃ τ, finM lev τ = finM lev σ ∧ Hid (Good M 1 τ) ∧ Hid (PMemE (Aw bx) wr base g ts τ) ∧ Hid (Fr bx base w wr)) (fun wr => lenAt wr g)
  case atStart => exact ⟨σ, rfl, HG.out, HM.out, Fr.refl _ _ _⟩
  case round =>
    obtain ⟨τ, hτ, HGT, HMT, HF⟩ := hrel
    obtain ⟨x, K, hx⟩ := HGT.out.split
    have HX := Lib.hid hx
    have HT := Lib.hid hτ
    have HTOP := Lib.hid (landTop base g ts τ x K wr HMT.out hx (by have := HGT.out.size; rw [hx, List.length_cons] at this; have := HL.out.1; omega))
    have q3 := fieldE3 x.kind x.lo x.hi x.kids x.level (Lex.bytes x.closer) x.reg x.depth
    clear hx hτ
    go_wp2_with fail
    refine HTOP.out.mono ?_
    rintro e w1 ⟨rfl, hb⟩
    have HB := Lib.hid hb
    clear hb
    by_cases hlx : lev ≤ x.level
    · have hle : (lev : Int) ≤ (x.level : Int) := by omega
      have hln : decide (lev ≤ x.level) = true := decide_eq_true hlx
      have hab := HGT.out.above HX.out (fun e => by rw [e] at hlx; exact absurd hlx (by show ¬ lev ≤ 0; have := HL.out.2; omega))
      have HAB := Lib.hid hab
      have HLX := Lib.hid hlx
      have HW := Lib.hid (HLO.out.mono (Nat.le_trans HF.out.below.size HB.out.size))
      clear hab hlx
      go_wp2_with fail
      refine (landPop bx base g M ts τ x K w1 HW.out (HMT.out.later HB.out) HGT.out HL.out.1 HX.out).mono ?_
      rintro e w2 ⟨rfl, hm, hf⟩
      have HM2 := Lib.hid hm
      have HF2 := Lib.hid ((HF.out.trans (Fr.later HB.out HMT.out.base)).trans hf)
      clear hm hf
      go_wp2_with fail
      go_roundw
      case rel => exact ⟨popM τ, by rw [← HT.out, popM_eq HX.out, ← fin_pop HX.out HLX.out], pop_good HGT.out HX.out HAB.out, HM2.out, HF2.out⟩
      case measure =>
        rw [HM2.out.len, HMT.out.len, HX.out, popM_eq HX.out, pop_opn, List.length_cons]
        exact Nat.lt_succ_self _
    · have hle : decide ((lev : Int) ≤ (x.level : Int)) = false := decide_eq_false (by omega)
      have hln : decide (lev ≤ x.level) = false := decide_eq_false hlx
      have HE := Lib.hid (show finM lev σ = τ by rw [← HT.out]; exact fin_stop HX.out (by omega))
      have HF2 := Lib.hid (HF.out.trans (Fr.later HB.out HMT.out.base))
      clear hlx
      go_wp2_with fail
      go_end0
      rw [HE.out]
      exact ⟨rfl, HMT.out.later HB.out, HF2.out⟩

set_option maxHeartbeats 4000000 in
theorem landEnd (bx : Option Nat) (base g M : Nat) (ts : List Tk) (σ : PS) (w : World) (hlow : Low bx w) (h : PMemE (Aw bx) w base g ts σ) (hg : Good M 1 σ) (hM : M ≤ 5000) :
    Calls Tryd.prog 85 #[.pointer (some ⟨g, 0, none⟩)] w fun e w' => e = .returned (.tuple #[]) ∧ PMemE (Aw bx) w' base g ts (endM σ) ∧ Fr bx base w w' := by
  have HF := Lib.hid (landFinish bx base g M ts σ 5 w hlow h hg hM (by omega))
  clear hlow h hg hM
  go_enter Tryd.func85, Tryd.ntmps85
  go_wp2_with fail
  refine HF.out.mono ?_
  rintro e w1 ⟨rfl, hm, hf⟩
  obtain ⟨tv, ov, nv, rv, SN, hm⟩ := hm
  have c2 := hm.blk.cell 2 rfl
  have f2 := hm.blk.fz 2 rfl
  have HM2 := Lib.hid (hm.store (σ' := endM σ) 2 (.bool true) rfl (by decide) hm.suf rfl rfl rfl)
  have HF2 := Lib.hid (hf.setCell (p := ⟨g, 2, none⟩) hm.hg hm.sg (.bool true))
  clear hm hf
  go_wp2_with fail
  go_end0
  exact ⟨rfl, ⟨_, _, _, _, _, HM2.out⟩, HF2.out⟩
end Go.Proofs.YtnoghlhggeffnaaDoor.Parse
