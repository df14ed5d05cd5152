/-
  The walks of the landed reader's pop, finish and end. By an AI agent.
-/
import Derived.Test.YtbehlceacgaebaaParsePut
import Derived.Test.YtbehlceacgaebaaParseTake
namespace Go.Proofs.Ytbehlceacgaebaa.Parse
open Go.RowKit Go.Proofs.Ytbehlceacgaebaa.Ints Go.Proofs.Ytbehlceacgaebaa.Lex Go.Proofs.Ytbehlceacgaebaa.Tree

/-! ### what a reader keeps -/
structure EntOk (x : Ent) : Prop where
  kinds : (x.kind = 0 ∧ x.kids = 0) ∨ (1 ≤ x.kind ∧ x.kind ≤ 22 ∧ (x.kids = 1 ∨ x.kids = 2))
  lo : small64 x.lo
  hi : small64 x.hi
  depth : x.depth ≤ 40
  level : x.level ≤ 5
def need (o : List Ent) : Nat := (o.map fun x => x.kids - 1).sum
theorem need_cons (x : Ent) (K : List Ent) : need (x :: K) = (x.kids - 1) + need K := by unfold need; rw [List.map_cons, List.sum_cons]
theorem need_le : ∀ (o : List Ent), (∀ x ∈ o, EntOk x) → need o ≤ o.length
  | [], _ => Nat.le_refl _
  | x :: K, h => by
    rw [need_cons, List.length_cons]
    have := need_le K fun y hy => h y (List.mem_cons_of_mem _ hy)
    rcases (h x List.mem_cons_self).kinds with ⟨-, h1⟩ | ⟨-, -, h1 | h1⟩ <;> omega
structure Good (M e : Nat) (σ : PS) : Prop where
  ents : ∀ x ∈ σ.opn, EntOk x
  bot : ∃ K g, σ.opn = K ++ [ent0 g]
  roots : ∀ z ∈ σ.roots, 0 ≤ z ∧ z < (σ.nodes.length : Int)
  need : need σ.opn + e = σ.roots.length
  size : σ.opn.length + σ.nodes.length + σ.rest.length ≤ M
theorem Good.ok {M e : Nat} {σ : PS} (h : Good M e σ) (hM : M ≤ 5000) (he : e ≤ 1) : RootsOk σ := by
  have h1 := need_le _ h.ents
  have h2 := h.need
  have h3 := h.size
  exact ⟨by omega, by omega, fun z hz => by have := h.roots z hz; omega⟩
theorem Good.split {M e : Nat} {σ : PS} (h : Good M e σ) : ∃ x K, σ.opn = x :: K := by
  obtain ⟨K, g, hK⟩ := h.bot
  cases hK' : σ.opn with
  | nil => rw [hK'] at hK; simp at hK
  | cons x K => exact ⟨x, K, rfl⟩
theorem pop_good {M : Nat} {σ : PS} (h : Good M 1 σ) {x : Ent} {K : List Ent} (hx : σ.opn = x :: K) (hb : ∃ K' g, K = K' ++ [ent0 g]) : Good M 1 (popM σ) := by
  have hents : ∀ y ∈ K, EntOk y := fun y hy => h.ents y (by rw [hx]; exact List.mem_cons_of_mem _ hy)
  have hn := h.need
  have hs := h.size
  rw [hx] at hn hs
  rw [need_cons] at hn
  rw [List.length_cons] at hs
  have hxk := (h.ents x (by rw [hx]; exact List.mem_cons_self)).kinds
  unfold popM
  rw [hx]
  simp only
  unfold popX
  by_cases h0 : x.kind = 0
  · rw [if_pos h0]
    have hk0 : x.kids = 0 := by rcases hxk with ⟨-, h1⟩ | ⟨h1, -⟩ <;> omega
    exact ⟨hents, hb, h.roots, by show need K + 1 = σ.roots.length; omega, by show K.length + σ.nodes.length + σ.rest.length ≤ M; omega⟩
  · rw [if_neg h0]
    have hk1 : x.kids = 1 ∨ x.kids = 2 := by rcases hxk with ⟨h1, -⟩ | ⟨-, -, h1⟩ <;> omega
    refine ⟨hents, hb, fun z hz => ?_, ?_, ?_⟩
    · rw [show (putM (entNd x) x.kids { σ with opn := K }).nodes = σ.nodes ++ [{ entNd x with kids := (σ.roots.take x.kids).reverse }] from rfl, List.length_append, List.length_singleton]
      rcases List.mem_cons.1 hz with rfl | hz
      · show (0 : Int) ≤ (σ.nodes.length : Int) ∧ (σ.nodes.length : Int) < ((σ.nodes.length + 1 : Nat) : Int)
        omega
      · have := h.roots z (List.mem_of_mem_drop hz); omega
    · show need K + 1 = ((σ.nodes.length : Int) :: σ.roots.drop x.kids).length
      rw [List.length_cons, List.length_drop]
      omega
    · show K.length + (σ.nodes ++ [_]).length + σ.rest.length ≤ M
      rw [List.length_append, List.length_singleton]
      omega

set_option maxHeartbeats 8000000 in
set_option maxRecDepth 100000 in
theorem landPop (bx : Option Nat) (base g M : Nat) (ts : List Tk) (σ : PS) (x : Ent) (K : List Ent) (w : World) (hlow : Low bx w) (h : PMemE (Aw bx) w base g ts σ) (hg : Good M 1 σ) (hM : M ≤ 5000) (hx : σ.opn = x :: K) :
    Calls Try.prog 47 #[.pointer (some ⟨g, 0, none⟩)] w fun e w' => e = .returned (.tuple #[]) ∧ PMemE (Aw bx) w' base g ts (popM σ) ∧ Fr bx base w w' := by
  have hKl : K.length ≤ 5000 := by have := hg.size; rw [hx, List.length_cons] at this; omega
  have HT := Lib.hid (landTop base g ts σ x K w h hx (by omega))
  have HLO := Lib.hid hlow
  have HM := Lib.hid h
  have HG := Lib.hid hg
  have HX := Lib.hid hx
  have HL := Lib.hid (show M ≤ 5000 ∧ K.length ≤ 5000 from ⟨hM, hKl⟩)
  clear hlow h hg hM hx hKl
  go_enter Try.func47, Try.ntmps47
  go_wp2_with fail
  refine HT.out.mono ?_
  rintro e w1 ⟨rfl, hb⟩
  go_wp2_with fail
  have hb2 := hb.alloc hb.size (.cells #[.int .i64 x.kind, .int .i64 x.lo, .int .i64 x.hi, .int .i64 x.kids, .int .i64 x.level, .string (Lex.bytes x.closer), .bool x.reg, .int .i64 x.depth] 41)
  have hx2 := Blk.new w1 #[.int .i64 x.kind, .int .i64 x.lo, .int .i64 x.hi, .int .i64 x.kids, .int .i64 x.level, .string (Lex.bytes x.closer), .bool x.reg, .int .i64 x.depth] 41 _ rfl
  have hM2 := HM.out.later hb2
  have hw1 := hb.size
  obtain ⟨W, hW⟩ : ∃ W, w1.alloc (.cells #[.int .i64 x.kind, .int .i64 x.lo, .int .i64 x.hi, .int .i64 x.kids, .int .i64 x.level, .string (Lex.bytes x.closer), .bool x.reg, .int .i64 x.depth] 41) = W := ⟨_, rfl⟩
  rw [hW] at hb2 hx2 hM2 ⊢
  obtain ⟨B, hB⟩ : ∃ B, w1.heap.size = B := ⟨_, rfl⟩
  rw [hB] at hx2 hw1 ⊢
  obtain ⟨tv, ov, nv, rv, SN, hm⟩ := hM2
  obtain ⟨q, c, rfl, hc, hmx, -⟩ := hm.top HX.out
  have k4 := hm.blk.cell 4 rfl
  have y4 := hm.blk.fz 4 rfl
  have hcut := hm.cut HX.out rfl
  obtain ⟨m, hml⟩ : ∃ m, K.length = m := ⟨_, rfl⟩
  rw [hml] at k4 hcut hc
  have hm1 : (m : Int) ≤ 5000 := by have := HL.out.2; omega
  have hm0 : (0 : Int) ≤ (m : Int) := by omega
  have hmc : (m : Int) ≤ (c : Int) := by omega
  have hgx : g < B := Nat.lt_of_lt_of_le HM.out.hg.2 hw1
  have HC := Lib.hid hcut
  have HB2 := Lib.hid hb2
  have HX2 := Lib.hid (hx2.other ⟨g, 4, none⟩ (.slice (some ⟨q, 0, none⟩) m c) (fun e => by have e : B = g := e; omega)).drew
  have z0 := HX2.out.cell 0 rfl
  have z1 := HX2.out.cell 1 rfl
  have z2 := HX2.out.cell 2 rfl
  have z3 := HX2.out.cell 3 rfl
  have HGB := Lib.hid (And.intro hgx hw1)
  clear hb hb2 hx2 hm hcut hw1 hW hB hc hmx hml hgx
  have HMC := Lib.hid (show PMemE (Aw bx) (W.setCell ⟨g, 4, none⟩ (.slice (some ⟨q, 0, none⟩) m c)).drew base g ts { σ with opn := K } from ⟨_, _, _, _, _, HC.out.later (Below.refl _ _).drew⟩)
  have HFR := Lib.hid (show Fr bx base w (W.setCell ⟨g, 4, none⟩ (.slice (some ⟨q, 0, none⟩) m c)).drew from ((Fr.later HB2.out HM.out.base).setCell (p := ⟨g, 4, none⟩) HM.out.hg.1 HC.out.sg _).trans (Fr.later (Below.refl _ _).drew (Nat.le_trans HM.out.base (by simpa using HB2.out.size))))
  by_cases hk0 : x.kind = 0
  · have e0 : ((x.kind : Int) != 0) = false := by rw [hk0]; rfl
    have HP := Lib.hid (show popM σ = { σ with opn := K } by unfold popM; rw [HX.out]; simp only; unfold popX; rw [if_pos hk0])
    clear hk0
    go_region
    go_wp2_with fail
    go_end0
    rw [HP.out]
    exact ⟨rfl, HMC.out, HFR.out⟩
  · have e0 : ((x.kind : Int) != 0) = true := by simp; omega
    have HP := Lib.hid (show popM σ = putM (entNd x) x.kids { σ with opn := K } by unfold popM; rw [HX.out]; simp only; unfold popX; rw [if_neg hk0])
    have hxm := HG.out.ents x (by rw [HX.out]; exact List.mem_cons_self)
    have hn := HG.out.need
    rw [HX.out, need_cons] at hn
    have HQ := Lib.hid (landPut bx base g ts { σ with opn := K } (entNd x) x.kids _ (HLO.out.mono HFR.out.below.size) HMC.out (HG.out.ok HL.out.1 (Nat.le_refl _)) (by show x.kids ≤ σ.roots.length; rcases hxm.kinds with ⟨h1, -⟩ | ⟨-, -, h1 | h1⟩ <;> omega) ⟨by show small64 (x.kind : Int); unfold small64; have := hxm.kinds; omega, hxm.lo, hxm.hi, Nat.zero_le _⟩)
    clear hk0 hxm hn
    go_region
    go_wp2_with fail
    refine HQ.out.mono ?_
    rintro e w5 ⟨rfl, hm5, hf5⟩
    go_wp2_with fail
    go_end0
    rw [HP.out]
    exact ⟨rfl, hm5, HFR.out.trans hf5⟩
end Go.Proofs.Ytbehlceacgaebaa.Parse
