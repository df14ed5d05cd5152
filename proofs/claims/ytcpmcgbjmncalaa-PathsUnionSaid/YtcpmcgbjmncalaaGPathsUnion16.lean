/-
  The landed graph in memory: a block of four cells, two rows of edges of its own (stage 14). By an AI agent.
-/
import Derived.Test.YtcpmcgbjmncalaaGPathsUnion15
import Derived.Test.YtcpmcgbjmncalaaGPathsUnion2
import Derived.Deep.AppendLies
namespace Go.Proofs.Ytcpmcgbjmncalaa.Paths
open Go.RowKit Go.Proofs.Ytcpmcgbjmncalaa.Ints Go.Proofs.Ytcpmcgbjmncalaa.Mem Go.Proofs.Ytcpmcgbjmncalaa.Src Go.Proofs.Ytcpmcgbjmncalaa.Tree

theorem infoEd : (Try.prog.info? 84).map (fun i => (i.zero, i.size, i.bytes)) = some (some (.agg #[.int .i64 0, .int .i64 0, .int .i64 0]), 3, 24) := by kernel_rfl
def cellsEd (e : Ed) : List Value := [.int .i64 (e.1 : Nat), .int .i64 (e.2.1 : Nat), .int .i64 e.2.2]
def rowEd (l : List Ed) : List Value := l.flatMap cellsEd
theorem cellsEd_one (e : Ed) : ∀ u ∈ cellsEd e, u.oneCell' = true := by
  intro u hu
  simp only [cellsEd, List.mem_cons, List.not_mem_nil, or_false] at hu
  rcases hu with rfl | rfl | rfl <;> rfl
theorem rowEd_snoc (l : List Ed) (e : Ed) : rowEd (l ++ [e]) = rowEd l ++ cellsEd e := by simp [rowEd]
theorem rowEd_at {l : List Ed} {k : Nat} {e : Ed} (h : l[k]? = some e) : (rowEd l)[3 * k]? = some (.int .i64 (e.1 : Nat)) ∧ (rowEd l)[3 * k + 1]? = some (.int .i64 (e.2.1 : Nat)) ∧ (rowEd l)[3 * k + 2]? = some (.int .i64 e.2.2) := by
  induction l generalizing k with
  | nil => cases h
  | cons a l ih =>
    have e1 : rowEd (a :: l) = .int .i64 (a.1 : Nat) :: .int .i64 (a.2.1 : Nat) :: .int .i64 a.2.2 :: rowEd l := rfl
    rw [e1]
    cases k with
    | zero => cases h; exact ⟨rfl, rfl, rfl⟩
    | succ k =>
      have h : l[k]? = some e := h
      have := ih h
      refine ⟨?_, ?_, ?_⟩
      · rw [show 3 * (k + 1) = 3 * k + 1 + 1 + 1 by omega]; exact this.1
      · rw [show 3 * (k + 1) + 1 = (3 * k + 1) + 1 + 1 + 1 by omega]; exact this.2.1
      · rw [show 3 * (k + 1) + 2 = (3 * k + 2) + 1 + 1 + 1 by omega]; exact this.2.2
structure GMem (w : World) (lo gp : Nat) (sv pv : Value) (np nt : Nat) (st sp : List Ed) : Prop where
  blk : Blk w gp [.int .i64 (np : Nat), .int .i64 (nt : Nat), sv, pv]
  hg : lo ≤ gp
  hb : lo ≤ w.heap.size
  sts : w.ownsRow lo 84 3 sv st.length (rowEd st)
  sps : w.ownsRow lo 84 3 pv sp.length (rowEd sp)
  sg : sv.ownBlock ≠ some gp
  pg : pv.ownBlock ≠ some gp
  ne : sv.ownBlock = none ∨ sv.ownBlock ≠ pv.ownBlock
def GMemE (w : World) (lo gp np nt : Nat) (st sp : List Ed) : Prop := ∃ sv pv, GMem w lo gp sv pv np nt st sp
section
variable {w w' w3 : World} {lo gp np nt q cap n : Nat} {sv pv : Value} {st sp : List Ed}
theorem GMem.later (h : GMem w lo gp sv pv np nt st sp) (hb : Below w.heap.size w w') : GMem w' lo gp sv pv np nt st sp :=
  ⟨h.blk.later hb, h.hg, Nat.le_trans h.hb hb.size, Mem.below_row h.sts hb, Mem.below_row h.sps hb, h.sg, h.pg, h.ne⟩
theorem GMem.kept {row : Option Nat} (h : GMem w lo gp sv pv np nt st sp) (hg : w.grownBy w' row) (h1 : some gp ≠ row) (h2 : sv.ownBlock = none ∨ sv.ownBlock ≠ row) (h3 : pv.ownBlock = none ∨ pv.ownBlock ≠ row) : GMem w' lo gp sv pv np nt st sp :=
  ⟨h.blk.grown hg h1, h.hg, Nat.le_trans h.hb hg.size, h.sts.kept hg h2, h.sps.kept hg h3, h.sg, h.pg, h.ne⟩
theorem grown_low {row : Option Nat} (hg : w.grownBy w' row) (hb : lo ≤ w.heap.size) (hr : ∀ b, row = some b → lo ≤ b) : Below lo w w' :=
  ⟨hg.os, hg.tape, hg.output, hg.size, fun i hi => hg.block i (by omega) (fun e => by have := hr i e.symm; omega)⟩
/-- An edge more within a point. -/
theorem GMem.push_st (h : GMem w lo gp sv pv np nt st sp) (e : Ed) (hn : n = st.length + 1) (hown : w3.ownsRow lo 84 3 (.slice (some ⟨q, 0, none⟩) n cap) n (rowEd st ++ cellsEd e)) (hg : w.grownBy w3 sv.ownBlock) (hq : sv.ownBlock = some q ∨ q = w.heap.size) :
    GMem (w3.setCell ⟨gp, 2, none⟩ (.slice (some ⟨q, 0, none⟩) n cap)) lo gp (.slice (some ⟨q, 0, none⟩) n cap) pv np nt (st ++ [e]) sp ∧ Below lo w (w3.setCell ⟨gp, 2, none⟩ (.slice (some ⟨q, 0, none⟩) n cap)) := by
  subst hn
  have hqg : q ≠ gp := by
    rcases hq with hq | hq
    · exact fun e => h.sg (by rw [hq, e])
    · have := h.blk.1; omega
  have hgs := grown_cell w3 ⟨gp, 2, none⟩ (.slice (some ⟨q, 0, none⟩) (st.length + 1) cap)
  have hb3 := grown_low hg h.hb (fun b hb => (h.sts.lt b hb).1)
  have hb4 := hb3.setCell (p := ⟨gp, 2, none⟩) h.hg (.slice (some ⟨q, 0, none⟩) (st.length + 1) cap)
  refine ⟨⟨(h.blk.grown hg (fun e => h.sg e.symm)).set 2 _ (by simp), h.hg, Nat.le_trans h.hb hb4.size, ?_, (h.sps.kept hg ?_).kept hgs (.inr h.pg), fun e => hqg (by injection e), h.pg, .inr fun e => ?_⟩, hb4⟩
  · rw [rowEd_snoc, List.length_append]
    exact hown.kept hgs (.inr fun e => hqg (by injection e))
  · rcases h.ne with e | e
    · rw [e]
      cases hp : pv.ownBlock with
      | none => exact .inl rfl
      | some b => exact .inr (fun e => by cases e)
    · exact .inr (fun e2 => e e2.symm)
  · have e : some q = pv.ownBlock := e
    rcases hq with hq | hq
    · rcases h.ne with e2 | e2
      · rw [e2] at hq; cases hq
      · exact e2 (hq.trans e)
    · have := (h.sps.lt q e.symm).2; omega
/-- An edge more to the next point. -/
theorem GMem.push_sp (h : GMem w lo gp sv pv np nt st sp) (e : Ed) (hn : n = sp.length + 1) (hown : w3.ownsRow lo 84 3 (.slice (some ⟨q, 0, none⟩) n cap) n (rowEd sp ++ cellsEd e)) (hg : w.grownBy w3 pv.ownBlock) (hq : pv.ownBlock = some q ∨ q = w.heap.size) :
    GMem (w3.setCell ⟨gp, 3, none⟩ (.slice (some ⟨q, 0, none⟩) n cap)) lo gp sv (.slice (some ⟨q, 0, none⟩) n cap) np nt st (sp ++ [e]) ∧ Below lo w (w3.setCell ⟨gp, 3, none⟩ (.slice (some ⟨q, 0, none⟩) n cap)) := by
  subst hn
  have hqg : q ≠ gp := by
    rcases hq with hq | hq
    · exact fun e => h.pg (by rw [hq, e])
    · have := h.blk.1; omega
  have hgs := grown_cell w3 ⟨gp, 3, none⟩ (.slice (some ⟨q, 0, none⟩) (sp.length + 1) cap)
  have hb3 := grown_low hg h.hb (fun b hb => (h.sps.lt b hb).1)
  have hb4 := hb3.setCell (p := ⟨gp, 3, none⟩) h.hg (.slice (some ⟨q, 0, none⟩) (sp.length + 1) cap)
  refine ⟨⟨(h.blk.grown hg (fun e => h.pg e.symm)).set 3 _ (by simp), h.hg, Nat.le_trans h.hb hb4.size, (h.sts.kept hg h.ne).kept hgs (.inr h.sg), ?_, h.sg, fun e => hqg (by injection e), ?_⟩, hb4⟩
  · rw [rowEd_snoc, List.length_append]
    exact hown.kept hgs (.inr fun e => hqg (by injection e))
  · rcases h.ne with e | e
    · exact .inl e
    · refine .inr fun e3 => ?_
      have e3 : sv.ownBlock = some q := e3
      rcases hq with hq | hq
      · exact e (e3.trans hq.symm)
      · have := (h.sts.lt q e3).2; omega
/-- A place more, a test more. -/
theorem GMem.count (h : GMem w lo gp sv pv np nt st sp) (m : Nat) : GMem (w.setCell ⟨gp, 0, none⟩ (.int .i64 (m : Nat))) lo gp sv pv m nt st sp ∧ Below lo w (w.setCell ⟨gp, 0, none⟩ (.int .i64 (m : Nat))) := by
  have hgs := grown_cell w ⟨gp, 0, none⟩ (.int .i64 (m : Nat))
  exact ⟨⟨h.blk.set 0 _ (by simp), h.hg, Nat.le_trans h.hb hgs.size, h.sts.kept hgs (.inr h.sg), h.sps.kept hgs (.inr h.pg), h.sg, h.pg, h.ne⟩, (Below.refl _ _).setCell (p := ⟨gp, 0, none⟩) h.hg _⟩
theorem GMem.test (h : GMem w lo gp sv pv np nt st sp) (m : Nat) : GMem (w.setCell ⟨gp, 1, none⟩ (.int .i64 (m : Nat))) lo gp sv pv np m st sp ∧ Below lo w (w.setCell ⟨gp, 1, none⟩ (.int .i64 (m : Nat))) := by
  have hgs := grown_cell w ⟨gp, 1, none⟩ (.int .i64 (m : Nat))
  exact ⟨⟨h.blk.set 1 _ (by simp), h.hg, Nat.le_trans h.hb hgs.size, h.sts.kept hgs (.inr h.sg), h.sps.kept hgs (.inr h.pg), h.sg, h.pg, h.ne⟩, (Below.refl _ _).setCell (p := ⟨gp, 1, none⟩) h.hg _⟩
end
set_option maxRecDepth 100000 in
set_option maxHeartbeats 2000000 in
/-- (*graph).place -/
theorem landPlace (lo gp np nt : Nat) (st sp : List Ed) (w : World) (h : GMemE w lo gp np nt st sp) (hnp : np ≤ 1000000000) :
    Calls Try.prog 66 #[.pointer (some ⟨gp, 0, none⟩)] w fun e w' => e = .returned (.int .i64 (np : Nat)) ∧ GMemE w' lo gp (np + 1) nt st sp ∧ Below lo w w' := by
  obtain ⟨sv, pv, h⟩ := h
  obtain ⟨m, hm⟩ : ∃ m, np + 1 = m := ⟨_, rfl⟩
  have HM := Lib.hid (h.count m)
  have c0 := h.blk.cell 0 rfl
  have g0 := h.blk.fz 0 rfl
  have e1 : ((np : Nat) : Int) + 1 = ((m : Nat) : Int) := by omega
  have e2 : ((m : Nat) : Int) - 1 = ((np : Nat) : Int) := by omega
  have hnp' : ((np : Nat) : Int) ≤ 1000000000 := by omega
  have hm' : ((m : Nat) : Int) ≤ 1000000001 := by omega
  have hm0 : (1 : Int) ≤ ((m : Nat) : Int) := by omega
  have d0 := HM.out.1.blk.cell 0 rfl
  have HE := Lib.hid hm
  clear h hm
  go_enter Try.func66, Try.ntmps66
  go_wp2_with fail
  go_ret
  rw [HE.out]
  exact ⟨rfl, ⟨_, _, HM.out.1⟩, HM.out.2⟩
end Go.Proofs.Ytcpmcgbjmncalaa.Paths
