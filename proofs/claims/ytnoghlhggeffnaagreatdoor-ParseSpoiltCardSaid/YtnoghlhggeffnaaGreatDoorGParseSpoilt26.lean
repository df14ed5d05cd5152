/-
  The reference's reader in memory: its block, its tokens, its row of nodes; what a call leaves of others' blocks. The walks of the reference's bad and sees. The walks of the reference's takes and makes.
    Made of several texts by wip/tools/mergetpl.py. By an AI agent.
-/
import Derived.Test.YtnoghlhggeffnaaGreatDoorGParseSpoilt23
import Derived.Test.YtnoghlhggeffnaaGreatDoorGParseSpoilt25
/- The reference's reader in memory: its block, its tokens, its row of nodes; what a call leaves of others' blocks. By an AI agent. -/
namespace Go.Proofs.YtnoghlhggeffnaaGreatDoor.Parse
open Go.RowKit Go.Proofs.YtnoghlhggeffnaaGreatDoor.Ints Go.Proofs.YtnoghlhggeffnaaGreatDoor.Lex Go.Proofs.YtnoghlhggeffnaaGreatDoor.Tree

/-- The reference's reader: the tokens to come, the nodes, how many were counted, how deep it is; the error and its place. -/
structure RS where
  rest : List Tk
  nodes : List Nd
  made : Nat
  deep : Int
  err : Nat
  wh : Nat
/-- Blocks that no call may touch lie in Pr. -/
structure Fp (Pr : Nat → Prop) (base : Nat) (w w' : World) : Prop where
  below : Below base w w'
  far : ∀ b, Pr b → b < w.heap.size → w'.heap[b]? = w.heap[b]?
section
variable {Pr : Nat → Prop} {base : Nat} {a b c w w' : World}
theorem Fp.refl (Pr : Nat → Prop) (base : Nat) (w : World) : Fp Pr base w w := ⟨Below.refl _ _, fun _ _ _ => rfl⟩
theorem Fp.trans (h : Fp Pr base a b) (k : Fp Pr base b c) : Fp Pr base a c :=
  ⟨h.below.trans k.below, fun x hx hl => (k.far x hx (Nat.lt_of_lt_of_le hl h.below.size)).trans (h.far x hx hl)⟩
theorem Fp.later (h : Below w.heap.size w w') (hb : base ≤ w.heap.size) : Fp Pr base w w' := ⟨h.mono hb, fun b _ hl => h.block b hl⟩
theorem Fp.setCell (h : Fp Pr base a w) {p : Addr} (hp : base ≤ p.block) (hx : ¬ Pr p.block) (u : Value) : Fp Pr base a (w.setCell p u) :=
  ⟨h.below.setCell hp u, fun b hb hl => (Below.heap_setCell w p u b (fun e => hx (by rw [← e]; exact hb))).trans (h.far b hb hl)⟩
theorem Fp.grown {row : Option Nat} (h : Fp Pr base a w) (hg : w.grownBy w' row) (hb : base ≤ w.heap.size) (hr : ∀ k, row = some k → base ≤ k) (hx : ∀ k, row = some k → ¬ Pr k) : Fp Pr base a w' :=
  ⟨h.below.grown hg hb hr, fun b hbx hl => (hg.block b (Nat.lt_of_lt_of_le hl h.below.size) (fun e => hx b e.symm hbx)).trans (h.far b hbx hl)⟩
theorem Fp.mono {Pr' : Nat → Prop} (h : Fp Pr base w w') (hp : ∀ b, Pr' b → Pr b) : Fp Pr' base w w' := ⟨h.below, fun b hb hl => h.far b (hp b hb) hl⟩
end
/-- The protected blocks are there. -/
def Lw (Pr : Nat → Prop) (w : World) : Prop := ∀ b, Pr b → b < w.heap.size
theorem Lw.mono {Pr : Nat → Prop} {w w' : World} (h : Lw Pr w) (hs : w.heap.size ≤ w'.heap.size) : Lw Pr w' := fun b hb => Nat.lt_of_lt_of_le (h b hb) hs

def cellsR (ts : List Tk) (tv lv : Value) (σ : RS) : List Value := [tv, .int .i64 ((ts.length - σ.rest.length : Nat) : Int), lv, .int .i64 (σ.made : Int), .int .i64 σ.deep, .int .i64 (σ.err : Int), .int .i64 (σ.wh : Int)]
structure RMem (Pr : Nat → Prop) (w : World) (base g : Nat) (ts : List Tk) (tv lv : Value) (SN : List SNd) (σ : RS) : Prop where
  blk : Blk w g (cellsR ts tv lv σ)
  hg : base ≤ g
  hb : base ≤ w.heap.size
  toks : Toks w tv ts
  tlow : ∀ b, tv.ownBlock = some b → b < base
  suf : σ.rest <:+ ts
  nds : OwnNodes (fun b => b ≠ g ∧ ¬ Pr b) w base lv SN
  ndl : SN.map (·.1) = σ.nodes
  lg : lv.ownBlock ≠ some g
  sg : ¬ Pr g
  sl : ∀ b, lv.ownBlock = some b → ¬ Pr b
def RMemE (Pr : Nat → Prop) (w : World) (base g : Nat) (ts : List Tk) (σ : RS) : Prop := ∃ tv lv SN, RMem Pr w base g ts tv lv SN σ
section
variable {Pr : Nat → Prop} {w w' : World} {base g : Nat} {ts : List Tk} {tv lv : Value} {SN : List SNd} {σ σ' : RS}
theorem RMem.later (h : RMem Pr w base g ts tv lv SN σ) (hb : Below w.heap.size w w') : RMem Pr w' base g ts tv lv SN σ :=
  ⟨h.blk.later hb, h.hg, Nat.le_trans h.hb hb.size, h.toks.keep hb, h.tlow, h.suf, h.nds.below hb, h.ndl, h.lg, h.sg, h.sl⟩
theorem RMemE.later (h : RMemE Pr w base g ts σ) (hb : Below w.heap.size w w') : RMemE Pr w' base g ts σ := by
  obtain ⟨tv, lv, SN, h⟩ := h
  exact ⟨tv, lv, SN, h.later hb⟩
theorem RMemE.low (h : RMemE Pr w base g ts σ) : base ≤ w.heap.size := by
  obtain ⟨tv, lv, SN, h⟩ := h
  exact h.hb
theorem RMemE.hg (h : RMemE Pr w base g ts σ) : base ≤ g ∧ g < w.heap.size ∧ ¬ Pr g := by
  obtain ⟨tv, lv, SN, h⟩ := h
  exact ⟨h.hg, h.blk.1, h.sg⟩
theorem RMem.mono {Pr' : Nat → Prop} (h : RMem Pr w base g ts tv lv SN σ) (hs : ∀ b, b < w.heap.size → ¬ Pr b → ¬ Pr' b) : RMem Pr' w base g ts tv lv SN σ :=
  ⟨h.blk, h.hg, h.hb, h.toks, h.tlow, h.suf, h.nds.mono fun b hb hp => ⟨hp.1, hs b hb hp.2⟩, h.ndl, h.lg, hs g h.blk.1 h.sg, fun b hb => hs b (h.nds.1.lt b hb).2 (h.sl b hb)⟩
theorem RMemE.mono {Pr' : Nat → Prop} (h : RMemE Pr w base g ts σ) (hs : ∀ b, b < w.heap.size → ¬ Pr b → ¬ Pr' b) : RMemE Pr' w base g ts σ := by
  obtain ⟨tv, lv, SN, h⟩ := h
  exact ⟨tv, lv, SN, h.mono hs⟩
/-- A box is laid, and protected. -/
theorem RMemE.boxed (h : RMemE Pr w base g ts σ) (o : Obj) : RMemE (fun b => Pr b ∨ b = w.heap.size) (w.alloc o) base g ts σ :=
  (h.mono (Pr' := fun b => Pr b ∨ b = w.heap.size) fun b hb hp e => e.elim hp (fun e => by omega)).later ((Below.refl _ _).alloc (Nat.le_refl _) o)
/-- A store into the reader's own block: what is not the row. -/
theorem RMem.store (h : RMem Pr w base g ts tv lv SN σ) (k : Nat) (u : Value) (hc : cellsR ts tv lv σ' = (cellsR ts tv lv σ).set k u) (hk : k < 7) (hs : σ'.rest <:+ ts) (hn : σ'.nodes = σ.nodes) :
    RMem Pr (w.setCell ⟨g, k, none⟩ u) base g ts tv lv SN σ' := by
  have hg : w.grownBy (w.setCell ⟨g, k, none⟩ u) (some g) := ⟨rfl, rfl, rfl, by simp, fun i _ hne => Below.heap_setCell w ⟨g, k, none⟩ u i (fun e => hne (by rw [e]))⟩
  have hbl : Below base w (w.setCell ⟨g, k, none⟩ u) := (Below.refl _ _).setCell (p := ⟨g, k, none⟩) h.hg u
  exact ⟨by rw [hc]; exact h.blk.set k u hk, h.hg, by simpa using h.hb, toks_kept h.toks h.tlow hbl, h.tlow, hs, h.nds.keep hg (Or.inr h.lg) (fun b hb e => hb.1 (by injection e)), by rw [hn]; exact h.ndl, h.lg, h.sg, h.sl⟩
/-- The token to be read. -/
theorem RMem.tok (h : RMem Pr w base g ts tv lv SN σ) {t : Tk} {r : List Tk} (hr : σ.rest = t :: r) :
    ∃ b c j, tv = .slice (some ⟨b, 0, none⟩) ts.length c ∧ ts.length - σ.rest.length = j ∧ j < ts.length ∧ w.cell? ⟨b, j * 4, none⟩ = some (.int .i64 (t.kind : Int)) ∧ w.cell? ⟨b, j * 4 + 1, none⟩ = some (.string (Lex.bytes t.text)) ∧ w.cell? ⟨b, j * 4 + 2, none⟩ = some (.int .i64 (t.num : Int)) ∧ w.cell? ⟨b, j * 4 + 3, none⟩ = some (.int .i64 (t.pos : Int)) := by
  obtain ⟨pre, hpre⟩ := h.suf
  have hl : ts.length = pre.length + (r.length + 1) := by rw [← hpre, hr, List.length_append, List.length_cons]
  obtain ⟨A, c, h1, h2, h3⟩ := h.toks
  obtain ⟨b, rfl, h5⟩ := h3 (by omega)
  have hj : ts.length - σ.rest.length = pre.length := by rw [hr, List.length_cons]; omega
  have ht : ts[pre.length]? = some t := by
    rw [← hpre, List.getElem?_append_right (Nat.le_refl _), Nat.sub_self, hr]; rfl
  have := h5 _ t ht
  rw [Nat.mul_comm 4 pre.length] at this
  exact ⟨b, c, pre.length, h1, hj, by omega, this⟩
/-- The row of nodes has grown. -/
theorem RMem.node {w3 : World} {q cap : Nat} (h : RMem Pr w base g ts tv lv SN σ) (hlow : Lw Pr w) (sn : SNd) (hown : OwnNodes (fun b => b ≠ g ∧ ¬ Pr b) w3 base (.slice (some ⟨q, 0, none⟩) (SN ++ [sn]).length cap) (SN ++ [sn])) (hg : w.grownBy w3 lv.ownBlock) (hq : lv.ownBlock = some q ∨ q = w.heap.size) :
    RMem Pr (w3.setCell ⟨g, 2, none⟩ (.slice (some ⟨q, 0, none⟩) (SN ++ [sn]).length cap)) base g ts tv (.slice (some ⟨q, 0, none⟩) (SN ++ [sn]).length cap) (SN ++ [sn]) { σ with nodes := σ.nodes ++ [sn.1] } := by
  have hqg : q ≠ g := by
    rcases hq with hq | hq
    · exact ne_own h.lg hq
    · have := h.blk.1; omega
  have hbase : base ≤ w.heap.size := h.hb
  have hb3 := grown_base hg hbase (fun b hb => (own_ge h.nds.1 hb).1)
  have hb4 : Below base w (w3.setCell ⟨g, 2, none⟩ (.slice (some ⟨q, 0, none⟩) (SN ++ [sn]).length cap)) := hb3.setCell (p := ⟨g, 2, none⟩) h.hg _
  have hgs : w3.grownBy (w3.setCell ⟨g, 2, none⟩ (.slice (some ⟨q, 0, none⟩) (SN ++ [sn]).length cap)) (some g) := ⟨rfl, rfl, rfl, by simp, fun i _ hne => Below.heap_setCell w3 ⟨g, 2, none⟩ _ i (fun e => hne (by rw [e]))⟩
  have hblk := (h.blk.grown hg (fun e => h.lg e.symm)).set 2 (.slice (some ⟨q, 0, none⟩) (SN ++ [sn]).length cap) (by unfold cellsR; simp)
  have hn1 := (hown.keep hgs (Or.inr (fun e => hqg (by injection e))) (fun b hb e => hb.1 (by injection e)))
  refine ⟨hblk, h.hg, Nat.le_trans hbase hb4.size, toks_kept h.toks h.tlow hb4, h.tlow, h.suf, hn1, by rw [List.map_append, h.ndl]; rfl, fun e => hqg (by injection e), h.sg, fun b hb => ?_⟩
  have hb : some q = some b := hb
  injection hb with hb
  rw [← hb]
  rcases hq with hq | hq
  · exact h.sl q hq
  · intro e
    have := hlow q e
    omega
end
end Go.Proofs.YtnoghlhggeffnaaGreatDoor.Parse

/- The walks of the reference's bad and sees. By an AI agent. -/
namespace Go.Proofs.YtnoghlhggeffnaaGreatDoor.Parse
open Go.RowKit Go.Proofs.YtnoghlhggeffnaaGreatDoor.Ints Go.Proofs.YtnoghlhggeffnaaGreatDoor.Lex Go.Proofs.YtnoghlhggeffnaaGreatDoor.Tree

theorem grown_two {w : World} (g a b : Nat) (u v : Value) : w.grownBy ((w.setCell ⟨g, a, none⟩ u).setCell ⟨g, b, none⟩ v).drew (some g) :=
  ⟨rfl, rfl, rfl, by show w.heap.size ≤ ((w.setCell ⟨g, a, none⟩ u).setCell ⟨g, b, none⟩ v).heap.size; simp, fun i _ hne => (Below.heap_setCell _ ⟨g, b, none⟩ v i (fun e => hne (by rw [e]))).trans (Below.heap_setCell w ⟨g, a, none⟩ u i (fun e => hne (by rw [e])))⟩
set_option maxHeartbeats 4000000 in
theorem refBad0 {Pr : Nat → Prop} (base g : Nat) (ts : List Tk) (σ : RS) (t : Tk) (r : List Tk) (c : Nat) (w : World) (h : RMemE Pr w base g ts σ) (he : σ.err = 0) (hr : σ.rest = t :: r) (_hl : ts.length ≤ 5000) :
    Calls Tryz.prog 45 #[.pointer (some ⟨g, 0, none⟩), .int .i64 (c : Int)] w fun e w' => e = .returned (.tuple #[]) ∧ RMemE Pr w' base g ts { σ with err := c, wh := t.pos } ∧ w.grownBy w' (some g) := by
  obtain ⟨tv, lv, SN, h⟩ := h
  obtain ⟨b, cc, j, htv, hj, hjl, d0, d1, d2, d3⟩ := h.tok hr
  have HM := Lib.hid h
  have c0 := h.blk.cell 0 rfl
  have c1 := h.blk.cell 1 rfl
  have c5 := h.blk.cell 5 rfl
  have c6 := h.blk.cell 6 rfl
  have f5 := h.blk.fz 5 rfl
  have f6 := h.blk.fz 6 rfl
  have c6' : ∀ u, (w.setCell ⟨g, 5, none⟩ u).cell? ⟨g, 6, none⟩ = _ := fun u => (h.blk.set 5 u (by unfold cellsR; simp)).cell 6 rfl
  have c5' : ∀ u, (w.setCell ⟨g, 6, none⟩ u).cell? ⟨g, 5, none⟩ = _ := fun u => (h.blk.set 6 u (by unfold cellsR; simp)).cell 5 rfl
  rw [he] at c5 c5'
  rw [hj] at c1
  subst htv
  have hj2 : (j : Int) < (ts.length : Int) := by omega
  have hj3 : (0 : Int) ≤ (j : Int) := by omega
  have HR := Lib.hid hr
  clear h hr hj he
  go_enter Tryz.func45, Tryz.ntmps45
  go_wp2
  go_region
  all_goals
    go_wp2
    go_end0
    have h1 := HM.out.store (σ' := { σ with err := c }) 5 (.int .i64 (c : Int)) rfl (by decide) HM.out.suf rfl
    have h2 := h1.store (σ' := { σ with err := c, wh := t.pos }) 6 (.int .i64 (t.pos : Int)) rfl (by decide) HM.out.suf rfl
    exact ⟨rfl, ⟨_, _, _, h2.later (Below.refl _ _).drew⟩, grown_two g _ _ _ _⟩
set_option maxHeartbeats 4000000 in
theorem refBadN {Pr : Nat → Prop} (base g : Nat) (ts : List Tk) (σ : RS) (c : Nat) (w : World) (h : RMemE Pr w base g ts σ) (he : σ.err ≠ 0) :
    Calls Tryz.prog 45 #[.pointer (some ⟨g, 0, none⟩), .int .i64 (c : Int)] w fun e w' => e = .returned (.tuple #[]) ∧ w' = w := by
  obtain ⟨tv, lv, SN, h⟩ := h
  have c5 := h.blk.cell 5 rfl
  have hne : ((σ.err : Int) == 0) = false := beq_eq_false_iff_ne.2 (by omega)
  clear h he
  go_enter Tryz.func45, Tryz.ntmps45
  go_wp2
  go_end0
  exact ⟨rfl, rfl⟩

set_option maxHeartbeats 8000000 in
theorem refSeesN {Pr : Nat → Prop} (base g : Nat) (ts : List Tk) (σ : RS) (k : Nat) (u : List UInt8) (w : World) (h : RMemE Pr w base g ts σ) (he : σ.err ≠ 0) :
    Calls Tryz.prog 56 #[.pointer (some ⟨g, 0, none⟩), .int .i64 (k : Int), .string (Lex.bytes u)] w fun e w' => e = .returned (.bool false) ∧ Below w.heap.size w w' := by
  obtain ⟨tv, lv, SN, h⟩ := h
  have c5 := h.blk.cell 5 rfl
  have hne : ((σ.err : Int) == 0) = false := beq_eq_false_iff_ne.2 (by omega)
  clear h he
  go_enter Tryz.func56, Tryz.ntmps56
  go_wp2_with fail
  go_quiet (fail)
  go_wp2_with fail
  go_ret
  exact ⟨rfl, ⟨rfl, rfl, rfl, Nat.le_refl _, fun _ _ => rfl⟩⟩
set_option maxHeartbeats 8000000 in
theorem refSees {Pr : Nat → Prop} (base g : Nat) (ts : List Tk) (σ : RS) (t : Tk) (r : List Tk) (k : Nat) (u : List UInt8) (w : World) (h : RMemE Pr w base g ts σ) (he : σ.err = 0) (hr : σ.rest = t :: r) (_hl : ts.length ≤ 5000) :
    Calls Tryz.prog 56 #[.pointer (some ⟨g, 0, none⟩), .int .i64 (k : Int), .string (Lex.bytes u)] w fun e w' => e = .returned (.bool (decide (t.kind = k) && decide (t.text = u))) ∧ Below w.heap.size w w' := by
  obtain ⟨tv, lv, SN, h⟩ := h
  obtain ⟨b, cc, j, htv, hj, hjl, d0, d1, d2, d3⟩ := h.tok hr
  have c0 := h.blk.cell 0 rfl
  have c1 := h.blk.cell 1 rfl
  have c5 := h.blk.cell 5 rfl
  rw [he] at c5
  rw [hj] at c1
  subst htv
  have hj2 : (j : Int) < (ts.length : Int) := by omega
  have hj3 : (0 : Int) ≤ (j : Int) := by omega
  have hcmp := bytes_cmp t.text u
  obtain ⟨z1, hz1⟩ : ∃ z, Lex.bytes t.text = z := ⟨_, rfl⟩
  obtain ⟨z2, hz2⟩ : ∃ z, Lex.bytes u = z := ⟨_, rfl⟩
  rw [hz1, hz2] at hcmp
  rw [hz1] at d1
  rw [hz2]
  clear h hr hj he hz1 hz2
  by_cases hk : t.kind = k
  · have hki : ((t.kind : Int) == (k : Int)) = true := beq_iff_eq.2 (by omega)
    have hkn : (t.kind == k) = true := beq_iff_eq.2 hk
    rw [decide_eq_true hk, Bool.true_and]
    by_cases hu : t.text = u
    · rw [decide_eq_true hu] at hcmp ⊢
      clear hk hu
      go_enter Tryz.func56, Tryz.ntmps56
      go_wp2_with fail
      go_quiet (fail)
      go_wp2_with fail
      go_ret
      exact ⟨rfl, ⟨rfl, rfl, rfl, Nat.le_refl _, fun _ _ => rfl⟩⟩
    · rw [decide_eq_false hu] at hcmp ⊢
      clear hk hu
      go_enter Tryz.func56, Tryz.ntmps56
      go_wp2_with fail
      go_quiet (fail)
      go_wp2_with fail
      go_ret
      exact ⟨rfl, ⟨rfl, rfl, rfl, Nat.le_refl _, fun _ _ => rfl⟩⟩
  · have hki : ((t.kind : Int) == (k : Int)) = false := beq_eq_false_iff_ne.2 (by omega)
    have hkn : (t.kind == k) = false := beq_eq_false_iff_ne.2 hk
    rw [decide_eq_false hk, Bool.false_and]
    clear hk hcmp
    go_enter Tryz.func56, Tryz.ntmps56
    go_wp2_with fail
    go_quiet (fail)
    go_wp2_with fail
    go_ret
    exact ⟨rfl, ⟨rfl, rfl, rfl, Nat.le_refl _, fun _ _ => rfl⟩⟩
end Go.Proofs.YtnoghlhggeffnaaGreatDoor.Parse

/- The walks of the reference's takes and makes. By an AI agent. -/
namespace Go.Proofs.YtnoghlhggeffnaaGreatDoor.Parse
open Go.RowKit Go.Proofs.YtnoghlhggeffnaaGreatDoor.Ints Go.Proofs.YtnoghlhggeffnaaGreatDoor.Lex Go.Proofs.YtnoghlhggeffnaaGreatDoor.Tree

/-- One token on. -/
theorem RMem.next {Pr : Nat → Prop} {w : World} {base g : Nat} {ts : List Tk} {tv lv : Value} {SN : List SNd} {σ : RS} {t : Tk} {r : List Tk} (h : RMem Pr w base g ts tv lv SN σ) (hr : σ.rest = t :: r) {j : Nat} (hj : ts.length - σ.rest.length = j) :
    RMem Pr (w.setCell ⟨g, 1, none⟩ (.int .i64 ((j : Int) + 1))) base g ts tv lv SN { σ with rest := r } := by
  have hs : r <:+ ts := (List.suffix_cons t r).trans (hr ▸ h.suf)
  refine h.store 1 _ ?_ (by decide) hs rfl
  unfold cellsR
  simp only [List.set]
  have hl := h.suf.length_le
  rw [hr] at hl hj
  simp only [List.length_cons] at hl hj
  have e : ((ts.length - r.length : Nat) : Int) = (j : Int) + 1 := by omega
  rw [e]
theorem grown_one {w : World} (g a : Nat) (u : Value) : w.grownBy (w.setCell ⟨g, a, none⟩ u) (some g) := ⟨rfl, rfl, rfl, by simp, fun i _ hne => Below.heap_setCell w ⟨g, a, none⟩ u i (fun e => hne (by rw [e]))⟩
theorem grown_trans {w w1 w2 : World} {r : Option Nat} (h : w.grownBy w1 r) (k : w1.grownBy w2 r) : w.grownBy w2 r :=
  ⟨k.os.trans h.os, k.tape.trans h.tape, k.output.trans h.output, Nat.le_trans h.size k.size, fun i hi hne => (k.block i (Nat.lt_of_lt_of_le hi h.size) hne).trans (h.block i hi hne)⟩
theorem grown_of_below {w w1 : World} {r : Option Nat} (h : Below w.heap.size w w1) : w.grownBy w1 r := ⟨h.os, h.tape, h.output, h.size, fun i hi _ => h.block i hi⟩

set_option maxHeartbeats 4000000 in
theorem refTakesN {Pr : Nat → Prop} (base g : Nat) (ts : List Tk) (σ : RS) (u : ByteArray) (w : World) (h : RMemE Pr w base g ts σ) (he : σ.err ≠ 0) :
    Calls Tryz.prog 111 #[.pointer (some ⟨g, 0, none⟩), .string u] w fun e w' => e = .returned (.tuple #[]) ∧ w' = w := by
  obtain ⟨tv, lv, SN, h⟩ := h
  have c5 := h.blk.cell 5 rfl
  have hne : ((σ.err : Int) != 0) = true := by simp; omega
  clear h he
  go_enter Tryz.func111, Tryz.ntmps111
  go_wp2
  refine bodyPost_ret (v := .tuple #[]) (by simp [results, Tryz.results111, go_sem]) rfl ?_
  exact ⟨rfl, rfl⟩
set_option maxHeartbeats 8000000 in
/-- takes: the next token is that sign, or it is wrong. -/
theorem refTakes {Pr : Nat → Prop} (base g : Nat) (ts : List Tk) (σ : RS) (t : Tk) (r : List Tk) (u : List UInt8) (w : World) (h : RMemE Pr w base g ts σ) (he : σ.err = 0) (hr : σ.rest = t :: r) (hl : ts.length ≤ 5000) :
    Calls Tryz.prog 111 #[.pointer (some ⟨g, 0, none⟩), .string (Lex.bytes u)] w fun e w' => e = .returned (.tuple #[]) ∧ RMemE Pr w' base g ts (if t.kind = 3 ∧ t.text = u then { σ with rest := r } else { σ with err := 2, wh := t.pos }) ∧ w.grownBy w' (some g) := by
  have HM := Lib.hid h
  have HE := Lib.hid he
  have HR := Lib.hid hr
  have HL := Lib.hid hl
  have HS := Lib.hid (refSees base g ts σ t r 3 u w h he hr hl)
  have c5 : w.cell? ⟨g, 5, none⟩ = some (.int .i64 0) := by obtain ⟨tv, lv, SN, h⟩ := h; have := h.blk.cell 5 rfl; rw [he] at this; exact this
  by_cases hy : t.kind = 3 ∧ t.text = u
  · rw [if_pos hy]
    rw [decide_eq_true hy.1, decide_eq_true hy.2] at HS
    clear h he hr hl hy
    go_enter Tryz.func111, Tryz.ntmps111
    go_wp2_with fail
    refine HS.out.mono ?_
    rintro e w1 ⟨rfl, hb⟩
    obtain ⟨tv, lv, SN, hm⟩ := HM.out.later hb
    obtain ⟨j, hj⟩ : ∃ j, ts.length - σ.rest.length = j := ⟨_, rfl⟩
    have c1 := hm.blk.cell 1 rfl
    have f1 := hm.blk.fz 1 rfl
    rw [hj] at c1
    have hj5 : (j : Int) ≤ 5000 := by have := HL.out; omega
    have hj0 : (0 : Int) ≤ (j : Int) := by omega
    have HN := Lib.hid (hm.next HR.out hj)
    have HB := Lib.hid hb
    clear hm hj hb
    go_wp2_with fail
    go_end0
    exact ⟨rfl, ⟨_, _, _, HN.out⟩, grown_trans (grown_of_below HB.out) (grown_one g 1 _)⟩
  · rw [if_neg hy]
    have hb2 : (decide (t.kind = 3) && decide (t.text = u)) = false := by
      rw [← Bool.decide_and]; exact decide_eq_false hy
    rw [hb2] at HS
    clear h he hr hl hy hb2
    go_enter Tryz.func111, Tryz.ntmps111
    go_wp2_with fail
    refine HS.out.mono ?_
    rintro e w1 ⟨rfl, hb⟩
    have HB := Lib.hid hb
    clear hb
    go_wp2_with fail
    refine (refBad0 base g ts σ t r 2 w1 (HM.out.later HB.out) HE.out HR.out HL.out).mono ?_
    rintro e w2 ⟨rfl, hm, hg⟩
    have HM2 := Lib.hid hm
    have HG2 := Lib.hid (grown_trans (grown_of_below HB.out) hg)
    clear hm hg
    go_wp2_with fail
    refine bodyPost_ret (v := .tuple #[]) (by simp [results, Tryz.results111, go_sem]) rfl ?_
    exact ⟨rfl, HM2.out, HG2.out⟩

/-- What makes does. -/
def downR (t : Tk) (σ : RS) : RS := if σ.deep + 1 ≤ 40 then { σ with deep := σ.deep + 1 } else { σ with deep := σ.deep + 1, err := 3, wh := t.pos }
def nodeR (t : Tk) (r : List Tk) (σ : RS) : RS := if σ.made + 1 ≤ 200 then { σ with made := σ.made + 1, rest := r } else { σ with made := σ.made + 1, err := 4, wh := t.pos }
def makesR (node down : Bool) (t : Tk) (r : List Tk) (σ : RS) : RS :=
  let σ1 := if down = true then downR t σ else σ
  if σ1.err ≠ 0 then σ1 else if node = true then nodeR t r σ1 else { σ1 with rest := r }
set_option maxHeartbeats 4000000 in
theorem refMakesN {Pr : Nat → Prop} (base g : Nat) (ts : List Tk) (σ : RS) (a b : Bool) (w : World) (h : RMemE Pr w base g ts σ) (he : σ.err ≠ 0) :
    Calls Tryz.prog 57 #[.pointer (some ⟨g, 0, none⟩), .bool a, .bool b] w fun e w' => e = .returned (.tuple #[]) ∧ w' = w := by
  obtain ⟨tv, lv, SN, h⟩ := h
  have c5 := h.blk.cell 5 rfl
  have hne : ((σ.err : Int) != 0) = true := by simp; omega
  clear h he
  go_enter Tryz.func57, Tryz.ntmps57
  go_wp2
  refine bodyPost_ret (v := .tuple #[]) (by simp [results, Tryz.results57, go_sem]) rfl ?_
  exact ⟨rfl, rfl⟩
end Go.Proofs.YtnoghlhggeffnaaGreatDoor.Parse
