/-
  The landed reader in memory: one of its rows grows, or is cut. By an AI agent.
-/
import Derived.Test.YtnoghlhggeffnaaDoorGParseMade12
namespace Go.Proofs.YtnoghlhggeffnaaDoor.Parse
open Go.RowKit Go.Proofs.YtnoghlhggeffnaaDoor.Ints Go.Proofs.YtnoghlhggeffnaaDoor.Lex Go.Proofs.YtnoghlhggeffnaaDoor.Tree

/-- All blocks but one. -/
def Aw (bx : Option Nat) : Nat → Prop := fun b => some b ≠ bx
/-- What lies below base is as it was, and so is the one block. -/
structure Fr (bx : Option Nat) (base : Nat) (w w' : World) : Prop where
  below : Below base w w'
  far : ∀ b, bx = some b → b < w.heap.size → w'.heap[b]? = w.heap[b]?
theorem Fr.refl (bx : Option Nat) (base : Nat) (w : World) : Fr bx base w w := ⟨Below.refl _ _, fun _ _ _ => rfl⟩
theorem Fr.trans {bx : Option Nat} {base : Nat} {a b c : World} (h : Fr bx base a b) (k : Fr bx base b c) : Fr bx base a c :=
  ⟨h.below.trans k.below, fun x hx hl => (k.far x hx (Nat.lt_of_lt_of_le hl h.below.size)).trans (h.far x hx hl)⟩
theorem Fr.later {bx : Option Nat} {base : Nat} {w w' : World} (h : Below w.heap.size w w') (hb : base ≤ w.heap.size) : Fr bx base w w' := ⟨h.mono hb, fun b _ hl => h.block b hl⟩
theorem Fr.setCell {bx : Option Nat} {base : Nat} {a w : World} (h : Fr bx base a w) {p : Addr} (hp : base ≤ p.block) (hx : some p.block ≠ bx) (u : Value) : Fr bx base a (w.setCell p u) :=
  ⟨h.below.setCell hp u, fun b hb hl => (Below.heap_setCell w p u b (fun e => hx (by rw [hb, e]))).trans (h.far b hb hl)⟩
theorem Fr.grown {bx : Option Nat} {base : Nat} {a w w' : World} {row : Option Nat} (h : Fr bx base a w) (hg : w.grownBy w' row) (hb : base ≤ w.heap.size) (hr : ∀ k, row = some k → base ≤ k) (hx : ∀ k, row = some k → some k ≠ bx) : Fr bx base a w' :=
  ⟨h.below.grown hg hb hr, fun b hbx hl => (hg.block b (Nat.lt_of_lt_of_le hl h.below.size) (fun e => hx b e.symm hbx.symm)).trans (h.far b hbx hl)⟩
theorem Fr.alloc {bx : Option Nat} {base : Nat} {a w : World} (h : Fr bx base a w) (hb : base ≤ w.heap.size) (o : Obj) : Fr bx base a (w.alloc o).drew := h.trans (Fr.later ((Below.refl _ _).alloc (Nat.le_refl _) o).drew hb)
def Low (bx : Option Nat) (w : World) : Prop := ∀ b, bx = some b → b < w.heap.size
theorem Low.mono {bx : Option Nat} {w w' : World} (h : Low bx w) (hs : w.heap.size ≤ w'.heap.size) : Low bx w' := fun b hb => Nat.lt_of_lt_of_le (h b hb) hs
theorem aw_new {bx : Option Nat} {w : World} (h : Low bx w) {q : Nat} {v : Value} (hs : ∀ b, v.ownBlock = some b → Aw bx b) (hq : v.ownBlock = some q ∨ q = w.heap.size) : Aw bx q := by
  rcases hq with hq | hq
  · exact hs q hq
  · intro e
    have := h q e.symm
    omega
theorem own_ge {w : World} {base : Nat} {e : TypeId} {size : Nat} {v : Value} {n : Nat} {xs : List Value} (h : w.ownsRow base e size v n xs) {b : Nat} (hb : v.ownBlock = some b) : base ≤ b ∧ b < w.heap.size := h.lt b hb
/-- Toks of old are kept where only what lies at base or later has changed. -/
theorem toks_kept {w w' : World} {base : Nat} {tv : Value} {ts : List Tk} (h : Toks w tv ts) (hl : ∀ b, tv.ownBlock = some b → b < base) (hb : Below base w w') : Toks w' tv ts := by
  obtain ⟨A, c, h1, h2, h3⟩ := h
  refine ⟨A, c, h1, fun a ha => Nat.lt_of_lt_of_le (h2 a ha) hb.size, fun h0 => ?_⟩
  obtain ⟨b, h4, h5⟩ := h3 h0
  have hlt : b < base := hl b (by rw [h1, h4]; rfl)
  refine ⟨b, h4, fun j t ht => ?_⟩
  obtain ⟨c1, c2, c3, c4⟩ := h5 j t ht
  have key : ∀ (o : Nat) (v : Value), w.cell? ⟨b, o, none⟩ = some v → w'.cell? ⟨b, o, none⟩ = some v := fun o v hv => (hb.cell (p := ⟨b, o, none⟩) hlt).trans hv
  exact ⟨key _ _ c1, key _ _ c2, key _ _ c3, key _ _ c4⟩
theorem grown_base {w w' : World} {base : Nat} {row : Option Nat} (hg : w.grownBy w' row) (hb : base ≤ w.heap.size) (hr : ∀ b, row = some b → base ≤ b) : Below base w w' :=
  ⟨hg.os, hg.tape, hg.output, hg.size, fun i hi => hg.block i (by omega) (fun e => by have := hr i e.symm; omega)⟩
theorem new_none {v : Value} {q : Nat} {w : World} {base : Nat} {e : TypeId} {size : Nat} {u : Value} {n : Nat} {xs : List Value} (hu : w.ownsRow base e size u n xs) (h : noneOr v.ownBlock u.ownBlock) (hq : v.ownBlock = some q ∨ q = w.heap.size) : noneOr (some q) u.ownBlock := by
  refine Or.inr fun e' => ?_
  rcases hq with hq | hq
  · rcases h with h | h
    · rw [h] at hq; cases hq
    · exact h (hq.trans e')
  · have := (hu.lt q e'.symm).2
    omega
section
variable {bx : Option Nat} {w w3 : World} {base g q cap : Nat} {ts : List Tk} {tv ov nv rv : Value} {SN : List SNd} {σ : PS}
theorem PMem.new_g (h : PMem (Aw bx) w base g ts tv ov nv rv SN σ) {v : Value} (hv : v.ownBlock ≠ some g) (hq : v.ownBlock = some q ∨ q = w.heap.size) : q ≠ g := by
  rcases hq with hq | hq
  · exact ne_own hv hq
  · have := h.blk.1; omega
/-- The row of what is open has grown. -/
theorem PMem.push (h : PMem (Aw bx) w base g ts tv ov nv rv SN σ) (hlow : Low bx w) (x : Ent) {n : Nat} (hown : w3.ownsRow base 62 8 (.slice (some ⟨q, 0, none⟩) n cap) n (rowE (x :: σ.opn).reverse)) (hn : n = (x :: σ.opn).length) (hg : w.grownBy w3 ov.ownBlock) (hq : ov.ownBlock = some q ∨ q = w.heap.size) :
    PMem (Aw bx) (w3.setCell ⟨g, 4, none⟩ (.slice (some ⟨q, 0, none⟩) n cap)) base g ts tv (.slice (some ⟨q, 0, none⟩) n cap) nv rv SN { σ with opn := x :: σ.opn } := by
  subst hn
  have hqg := h.new_g h.og hq
  have hbase : base ≤ w.heap.size := h.hb
  have hb3 := grown_base hg hbase (fun b hb => (own_ge h.opn hb).1)
  have hb4 : Below base w (w3.setCell ⟨g, 4, none⟩ (.slice (some ⟨q, 0, none⟩) (x :: σ.opn).length cap)) := hb3.setCell (p := ⟨g, 4, none⟩) h.hg _
  have hgs : w3.grownBy (w3.setCell ⟨g, 4, none⟩ (.slice (some ⟨q, 0, none⟩) (x :: σ.opn).length cap)) (some g) := ⟨rfl, rfl, rfl, by simp, fun i _ hne => Below.heap_setCell w3 ⟨g, 4, none⟩ _ i (fun e => hne (by rw [e]))⟩
  have hblk := (h.blk.grown hg (fun e => h.og e.symm)).set 4 (.slice (some ⟨q, 0, none⟩) (x :: σ.opn).length cap) (by unfold cellsP; simp)
  have hn1 := (((h.nds.mono (S' := fun b => ((Off3 g ov rv b ∧ Aw bx b) ∧ b < w.heap.size)) fun b hb hp => ⟨hp, hb⟩).keep hg h.on.symm (fun b hb => hb.1.1.2.1)).keep hgs (Or.inr h.ng) (fun b hb e => hb.1.1.1 (by injection e)))
  refine ⟨hblk, h.hg, Nat.le_trans hbase hb4.size, toks_kept h.toks h.tlow hb4, h.tlow, h.suf, hown.kept hgs (Or.inr (fun e => hqg (by injection e))), hn1.mono fun b _ hp => ⟨⟨hp.1.1.1, fun e => ?_, hp.1.1.2.2⟩, hp.1.2⟩, h.ndl, (h.rts.kept hg h.or.symm).kept hgs (Or.inr h.rg), fun e => hqg (by injection e), h.ng, h.rg, new_none h.nds.1 h.on hq, new_none h.rts h.or hq, h.nr, h.sg, fun b hb => by (have hb : some q = some b := hb); injection hb with hb; rw [← hb]; exact aw_new hlow h.so hq, h.sn, h.sr⟩
  have e : b = q := by injection e
  rcases hq with hq | hq
  · exact hp.1.1.2.1 (by rw [hq, e])
  · have := hp.2; omega
/-- The innermost of what is open is struck. -/
theorem PMem.cut {n : Nat} (h : PMem (Aw bx) w base g ts tv (.slice (some ⟨q, 0, none⟩) (n + 1) cap) nv rv SN σ) {x : Ent} {K : List Ent} (hx : σ.opn = x :: K) (hn : K.length = n) :
    PMem (Aw bx) (w.setCell ⟨g, 4, none⟩ (.slice (some ⟨q, 0, none⟩) n cap)) base g ts tv (.slice (some ⟨q, 0, none⟩) n cap) nv rv SN { σ with opn := K } := by
  have hgs : w.grownBy (w.setCell ⟨g, 4, none⟩ (.slice (some ⟨q, 0, none⟩) n cap)) (some g) := ⟨rfl, rfl, rfl, by simp, fun i _ hne => Below.heap_setCell w ⟨g, 4, none⟩ _ i (fun e => hne (by rw [e]))⟩
  have hb4 : Below base w (w.setCell ⟨g, 4, none⟩ (.slice (some ⟨q, 0, none⟩) n cap)) := (Below.refl _ _).setCell (p := ⟨g, 4, none⟩) h.hg _
  have ho := h.opn
  rw [hx, List.length_cons, hn] at ho
  have ho2 := own_take (k := n) (n := n + 1) (size := 8) (xs := rowE (x :: K).reverse) (ys := rowE K.reverse) ho (by omega) (by
    rw [List.reverse_cons, rowE_snoc, List.take_append_of_le_length (by rw [rowE_len, List.length_reverse, hn]; exact Nat.le_refl _), List.take_of_length_le (by rw [rowE_len, List.length_reverse, hn]; exact Nat.le_refl _)])
  have hblk := h.blk.set 4 (.slice (some ⟨q, 0, none⟩) n cap) (by unfold cellsP; simp)
  subst hn
  exact ⟨hblk, h.hg, Nat.le_trans h.hb hb4.size, toks_kept h.toks h.tlow hb4, h.tlow, h.suf, ho2.kept hgs (Or.inr h.og), h.nds.keep hgs (Or.inr h.ng) (fun b hb e => hb.1.1 (by injection e)), h.ndl, h.rts.kept hgs (Or.inr h.rg), h.og, h.ng, h.rg, h.on, h.or, h.nr, h.sg, h.so, h.sn, h.sr⟩
/-- The row of roots has grown. -/
theorem PMem.root (h : PMem (Aw bx) w base g ts tv ov nv rv SN σ) (hlow : Low bx w) (zs : List Int) {n : Nat} (hown : w3.ownsRow base 3 1 (.slice (some ⟨q, 0, none⟩) n cap) n (zs.reverse.map (Value.int .i64))) (hn : n = zs.length) (hg : w.grownBy w3 rv.ownBlock) (hq : rv.ownBlock = some q ∨ q = w.heap.size) :
    PMem (Aw bx) (w3.setCell ⟨g, 6, none⟩ (.slice (some ⟨q, 0, none⟩) n cap)) base g ts tv ov nv (.slice (some ⟨q, 0, none⟩) n cap) SN { σ with roots := zs } := by
  subst hn
  have hqg := h.new_g h.rg hq
  have hbase : base ≤ w.heap.size := h.hb
  have hb3 := grown_base hg hbase (fun b hb => (own_ge h.rts hb).1)
  have hb4 : Below base w (w3.setCell ⟨g, 6, none⟩ (.slice (some ⟨q, 0, none⟩) zs.length cap)) := hb3.setCell (p := ⟨g, 6, none⟩) h.hg _
  have hgs : w3.grownBy (w3.setCell ⟨g, 6, none⟩ (.slice (some ⟨q, 0, none⟩) zs.length cap)) (some g) := ⟨rfl, rfl, rfl, by simp, fun i _ hne => Below.heap_setCell w3 ⟨g, 6, none⟩ _ i (fun e => hne (by rw [e]))⟩
  have hblk := (h.blk.grown hg (fun e => h.rg e.symm)).set 6 (.slice (some ⟨q, 0, none⟩) zs.length cap) (by unfold cellsP; simp)
  have hn1 := (((h.nds.mono (S' := fun b => ((Off3 g ov rv b ∧ Aw bx b) ∧ b < w.heap.size)) fun b hb hp => ⟨hp, hb⟩).keep hg h.nr (fun b hb => hb.1.1.2.2)).keep hgs (Or.inr h.ng) (fun b hb e => hb.1.1.1 (by injection e)))
  refine ⟨hblk, h.hg, Nat.le_trans hbase hb4.size, toks_kept h.toks h.tlow hb4, h.tlow, h.suf, (h.opn.kept hg h.or).kept hgs (Or.inr h.og), hn1.mono fun b _ hp => ⟨⟨hp.1.1.1, hp.1.1.2.1, fun e => ?_⟩, hp.1.2⟩, h.ndl, hown.kept hgs (Or.inr (fun e => hqg (by injection e))), h.og, h.ng, fun e => hqg (by injection e), h.on, (new_none h.opn h.or.symm hq).symm, (new_none h.nds.1 h.nr.symm hq).symm, h.sg, h.so, h.sn, fun b hb => by (have hb : some q = some b := hb); injection hb with hb; rw [← hb]; exact aw_new hlow h.sr hq⟩
  have e : b = q := by injection e
  rcases hq with hq | hq
  · exact hp.1.1.2.2 (by rw [hq, e])
  · have := hp.2; omega
/-- The row of nodes has grown. -/
theorem PMem.node (h : PMem (Aw bx) w base g ts tv ov nv rv SN σ) (hlow : Low bx w) (sn : SNd) (hown : OwnNodes (fun b => Off3 g ov rv b ∧ Aw bx b) w3 base (.slice (some ⟨q, 0, none⟩) (SN ++ [sn]).length cap) (SN ++ [sn])) (hg : w.grownBy w3 nv.ownBlock) (hq : nv.ownBlock = some q ∨ q = w.heap.size) :
    PMem (Aw bx) (w3.setCell ⟨g, 5, none⟩ (.slice (some ⟨q, 0, none⟩) (SN ++ [sn]).length cap)) base g ts tv ov (.slice (some ⟨q, 0, none⟩) (SN ++ [sn]).length cap) rv (SN ++ [sn]) { σ with nodes := σ.nodes ++ [sn.1] } := by
  have hqg := h.new_g h.ng hq
  have hbase : base ≤ w.heap.size := h.hb
  have hb3 := grown_base hg hbase (fun b hb => (own_ge h.nds.1 hb).1)
  have hb4 : Below base w (w3.setCell ⟨g, 5, none⟩ (.slice (some ⟨q, 0, none⟩) (SN ++ [sn]).length cap)) := hb3.setCell (p := ⟨g, 5, none⟩) h.hg _
  have hgs : w3.grownBy (w3.setCell ⟨g, 5, none⟩ (.slice (some ⟨q, 0, none⟩) (SN ++ [sn]).length cap)) (some g) := ⟨rfl, rfl, rfl, by simp, fun i _ hne => Below.heap_setCell w3 ⟨g, 5, none⟩ _ i (fun e => hne (by rw [e]))⟩
  have hblk := (h.blk.grown hg (fun e => h.ng e.symm)).set 5 (.slice (some ⟨q, 0, none⟩) (SN ++ [sn]).length cap) (by unfold cellsP; simp)
  have hn1 := (hown.keep hgs (Or.inr (fun e => hqg (by injection e))) (fun b hb e => hb.1.1 (by injection e)))
  exact ⟨hblk, h.hg, Nat.le_trans hbase hb4.size, toks_kept h.toks h.tlow hb4, h.tlow, h.suf, (h.opn.kept hg h.on).kept hgs (Or.inr h.og), hn1, by rw [List.map_append, h.ndl]; rfl, (h.rts.kept hg h.nr.symm).kept hgs (Or.inr h.rg), h.og, fun e => hqg (by injection e), h.rg, (new_none h.opn h.on.symm hq).symm, h.or, new_none h.rts h.nr hq, h.sg, h.so, fun b hb => by (have hb : some q = some b := hb); injection hb with hb; rw [← hb]; exact aw_new hlow h.sn hq, h.sr⟩
end
end Go.Proofs.YtnoghlhggeffnaaDoor.Parse
