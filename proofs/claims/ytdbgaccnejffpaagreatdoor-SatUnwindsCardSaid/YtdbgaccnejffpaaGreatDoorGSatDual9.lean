/-
  The landed graph in memory: a block of four cells, two rows of edges of its own (stage 14). By an AI agent.
  The landed (*graph).lay: the ways of a node, between two places (stage 14). By an AI agent.
-/
import Derived.Test.YtdbgaccnejffpaaGreatDoorGSatDual8
import Derived.Test.YtdbgaccnejffpaaGreatDoorGSatDual2
import Derived.Deep.AppendLies
import Derived.Test.YtdbgaccnejffpaaGreatDoorGSatDual1
namespace Go.Proofs.YtdbgaccnejffpaaGreatDoor.Paths
open Go.RowKit Go.Proofs.YtdbgaccnejffpaaGreatDoor.Ints Go.Proofs.YtdbgaccnejffpaaGreatDoor.Mem Go.Proofs.YtdbgaccnejffpaaGreatDoor.Src Go.Proofs.YtdbgaccnejffpaaGreatDoor.Tree
theorem infoEd : (Tryz.prog.info? 129).map (fun i => (i.zero, i.size, i.bytes)) = some (some (.agg #[.int .i64 0, .int .i64 0, .int .i64 0]), 3, 24) := by kernel_rfl
def cellsEd (e : Ed) : List Value := [.int .i64 (e.1 : Nat), .int .i64 (e.2.1 : Nat), .int .i64 e.2.2]
def rowEd (l : List Ed) : List Value := l.flatMap cellsEd
theorem cellsEd_one (e : Ed) : ∀ u ∈ cellsEd e, u.oneCell' = true := by
 intro u hu
 simp only [cellsEd, List.mem_cons, List.not_mem_nil, or_false] at hu
 rcases hu with rfl | rfl | rfl <;> rfl
theorem rowEd_snoc (l : List Ed) (e : Ed) : rowEd (l ++ [e]) = rowEd l ++ cellsEd e := by simp [rowEd]
theorem rowEd_at {l : List Ed} {k : Nat} {e : Ed} (h : l[k]? = some e) : (rowEd l)[3 * k]? = some (.int .i64 (e.1 : Nat)) ∧ (rowEd l)[3 * k + 1]? = some (.int .i64 (e.2.1 : Nat)) ∧ (rowEd l)[3 * k + 2]? = some (.int .i64 e.2.2) := by
 induction l generalizing k with
 | nil => cases h
 | cons a l ih =>
  have e1 : rowEd (a :: l) = .int .i64 (a.1 : Nat) :: .int .i64 (a.2.1 : Nat) :: .int .i64 a.2.2 :: rowEd l := rfl
  rw [e1]
  cases k with
  | zero => cases h; exact ⟨rfl, rfl, rfl⟩
  | succ k =>
   have h : l[k]? = some e := h
   have := ih h
   refine ⟨?_, ?_, ?_⟩
   ·rw [show 3 * (k + 1) = 3 * k + 1 + 1 + 1 by omega]; exact this.1
   ·rw [show 3 * (k + 1) + 1 = (3 * k + 1) + 1 + 1 + 1 by omega]; exact this.2.1
   ·rw [show 3 * (k + 1) + 2 = (3 * k + 2) + 1 + 1 + 1 by omega]; exact this.2.2
structure GMem (w : World) (lo gp : Nat) (sv pv : Value) (np nt : Nat) (st sp : List Ed) : Prop where
 blk : Blk w gp [.int .i64 (np : Nat), .int .i64 (nt : Nat), sv, pv]
 hg : lo ≤ gp
 hb : lo ≤ w.heap.size
 sts : w.ownsRow lo 129 3 sv st.length (rowEd st)
 sps : w.ownsRow lo 129 3 pv sp.length (rowEd sp)
 sg : sv.ownBlock ≠ some gp
 pg : pv.ownBlock ≠ some gp
 ne : sv.ownBlock = none ∨ sv.ownBlock ≠ pv.ownBlock
def GMemE (w : World) (lo gp np nt : Nat) (st sp : List Ed) : Prop := ∃ sv pv, GMem w lo gp sv pv np nt st sp
section
variable {w w' w3 : World} {lo gp np nt q cap n : Nat} {sv pv : Value} {st sp : List Ed}
theorem GMem.later (h : GMem w lo gp sv pv np nt st sp) (hb : Below w.heap.size w w') : GMem w' lo gp sv pv np nt st sp :=
 ⟨h.blk.later hb, h.hg, Nat.le_trans h.hb hb.size, Mem.below_row h.sts hb, Mem.below_row h.sps hb, h.sg, h.pg, h.ne⟩
theorem grown_low {row : Option Nat} (hg : w.grownBy w' row) (hb : lo ≤ w.heap.size) (hr : ∀ b, row = some b → lo ≤ b) : Below lo w w' :=
 ⟨hg.os, hg.tape, hg.output, hg.size, fun i hi => hg.block i (by omega) (fun e => by have := hr i e.symm; omega)⟩
theorem GMem.push_st (h : GMem w lo gp sv pv np nt st sp) (e : Ed) (hn : n = st.length + 1) (hown : w3.ownsRow lo 129 3 (.slice (some ⟨q, 0, none⟩) n cap) n (rowEd st ++ cellsEd e)) (hg : w.grownBy w3 sv.ownBlock) (hq : sv.ownBlock = some q ∨ q = w.heap.size) :
  GMem (w3.setCell ⟨gp, 2, none⟩ (.slice (some ⟨q, 0, none⟩) n cap)) lo gp (.slice (some ⟨q, 0, none⟩) n cap) pv np nt (st ++ [e]) sp ∧ Below lo w (w3.setCell ⟨gp, 2, none⟩ (.slice (some ⟨q, 0, none⟩) n cap)) := by
 subst hn
 have hqg : q ≠ gp := by
  rcases hq with hq | hq
  ·exact fun e => h.sg (by rw [hq, e])
  ·have := h.blk.1; omega
 have hgs := grown_cell w3 ⟨gp, 2, none⟩ (.slice (some ⟨q, 0, none⟩) (st.length + 1) cap)
 have hb3 := grown_low hg h.hb (fun b hb => (h.sts.lt b hb).1)
 have hb4 := hb3.setCell (p := ⟨gp, 2, none⟩) h.hg (.slice (some ⟨q, 0, none⟩) (st.length + 1) cap)
 refine ⟨⟨(h.blk.grown hg (fun e => h.sg e.symm)).set 2 _ (by simp), h.hg, Nat.le_trans h.hb hb4.size, ?_, (h.sps.kept hg ?_).kept hgs (.inr h.pg), fun e => hqg (by injection e), h.pg, .inr fun e => ?_⟩, hb4⟩
 ·rw [rowEd_snoc, List.length_append]
  exact hown.kept hgs (.inr fun e => hqg (by injection e))
 ·rcases h.ne with e | e
  ·rw [e]
   cases hp : pv.ownBlock with
   | none => exact .inl rfl
   | some b => exact .inr (fun e => by cases e)
  ·exact .inr (fun e2 => e e2.symm)
 ·have e : some q = pv.ownBlock := e
  rcases hq with hq | hq
  ·rcases h.ne with e2 | e2
   ·rw [e2] at hq; cases hq
   ·exact e2 (hq.trans e)
  ·have := (h.sps.lt q e.symm).2; omega
theorem GMem.push_sp (h : GMem w lo gp sv pv np nt st sp) (e : Ed) (hn : n = sp.length + 1) (hown : w3.ownsRow lo 129 3 (.slice (some ⟨q, 0, none⟩) n cap) n (rowEd sp ++ cellsEd e)) (hg : w.grownBy w3 pv.ownBlock) (hq : pv.ownBlock = some q ∨ q = w.heap.size) :
  GMem (w3.setCell ⟨gp, 3, none⟩ (.slice (some ⟨q, 0, none⟩) n cap)) lo gp sv (.slice (some ⟨q, 0, none⟩) n cap) np nt st (sp ++ [e]) ∧ Below lo w (w3.setCell ⟨gp, 3, none⟩ (.slice (some ⟨q, 0, none⟩) n cap)) := by
 subst hn
 have hqg : q ≠ gp := by
  rcases hq with hq | hq
  ·exact fun e => h.pg (by rw [hq, e])
  ·have := h.blk.1; omega
 have hgs := grown_cell w3 ⟨gp, 3, none⟩ (.slice (some ⟨q, 0, none⟩) (sp.length + 1) cap)
 have hb3 := grown_low hg h.hb (fun b hb => (h.sps.lt b hb).1)
 have hb4 := hb3.setCell (p := ⟨gp, 3, none⟩) h.hg (.slice (some ⟨q, 0, none⟩) (sp.length + 1) cap)
 refine ⟨⟨(h.blk.grown hg (fun e => h.pg e.symm)).set 3 _ (by simp), h.hg, Nat.le_trans h.hb hb4.size, (h.sts.kept hg h.ne).kept hgs (.inr h.sg), ?_, h.sg, fun e => hqg (by injection e), ?_⟩, hb4⟩
 ·rw [rowEd_snoc, List.length_append]
  exact hown.kept hgs (.inr fun e => hqg (by injection e))
 ·rcases h.ne with e | e
  ·exact .inl e
  ·refine .inr fun e3 => ?_
   have e3 : sv.ownBlock = some q := e3
   rcases hq with hq | hq
   ·exact e (e3.trans hq.symm)
   ·have := (h.sts.lt q e3).2; omega
theorem GMem.count (h : GMem w lo gp sv pv np nt st sp) (m : Nat) : GMem (w.setCell ⟨gp, 0, none⟩ (.int .i64 (m : Nat))) lo gp sv pv m nt st sp ∧ Below lo w (w.setCell ⟨gp, 0, none⟩ (.int .i64 (m : Nat))) := by
 have hgs := grown_cell w ⟨gp, 0, none⟩ (.int .i64 (m : Nat))
 exact ⟨⟨h.blk.set 0 _ (by simp), h.hg, Nat.le_trans h.hb hgs.size, h.sts.kept hgs (.inr h.sg), h.sps.kept hgs (.inr h.pg), h.sg, h.pg, h.ne⟩, (Below.refl _ _).setCell (p := ⟨gp, 0, none⟩) h.hg _⟩
theorem GMem.test (h : GMem w lo gp sv pv np nt st sp) (m : Nat) : GMem (w.setCell ⟨gp, 1, none⟩ (.int .i64 (m : Nat))) lo gp sv pv np m st sp ∧ Below lo w (w.setCell ⟨gp, 1, none⟩ (.int .i64 (m : Nat))) := by
 have hgs := grown_cell w ⟨gp, 1, none⟩ (.int .i64 (m : Nat))
 exact ⟨⟨h.blk.set 1 _ (by simp), h.hg, Nat.le_trans h.hb hgs.size, h.sts.kept hgs (.inr h.sg), h.sps.kept hgs (.inr h.pg), h.sg, h.pg, h.ne⟩, (Below.refl _ _).setCell (p := ⟨gp, 1, none⟩) h.hg _⟩
end
set_option maxRecDepth 100000 in
set_option maxHeartbeats 2000000 in
theorem landPlace (lo gp np nt : Nat) (st sp : List Ed) (w : World) (h : GMemE w lo gp np nt st sp) (hnp : np ≤ 1000000000) :
  Calls Tryz.prog 103 #[.pointer (some ⟨gp, 0, none⟩)] w fun e w' => e = .returned (.int .i64 (np : Nat)) ∧ GMemE w' lo gp (np + 1) nt st sp ∧ Below lo w w' := by
 obtain ⟨sv, pv, h⟩ := h
 obtain ⟨m, hm⟩ : ∃ m, np + 1 = m := ⟨_, rfl⟩
 have HM := Lib.hid (h.count m)
 have c0 := h.blk.cell 0 rfl
 have g0 := h.blk.fz 0 rfl
 have e1 : ((np : Nat) : Int) + 1 = ((m : Nat) : Int) := by omega
 have e2 : ((m : Nat) : Int) - 1 = ((np : Nat) : Int) := by omega
 have hnp' : ((np : Nat) : Int) ≤ 1000000000 := by omega
 have hm' : ((m : Nat) : Int) ≤ 1000000001 := by omega
 have hm0 : (1 : Int) ≤ ((m : Nat) : Int) := by omega
 have d0 := HM.out.1.blk.cell 0 rfl
 have HE := Lib.hid hm
 clear h hm
 go_enter Tryz.func103, Tryz.ntmps103
 go_wp2_with fail
 go_ret
 rw [HE.out]
 exact ⟨rfl, ⟨_, _, HM.out.1⟩, HM.out.2⟩
end Go.Proofs.YtdbgaccnejffpaaGreatDoor.Paths

namespace Go.Proofs.YtdbgaccnejffpaaGreatDoor.Paths
open Go.RowKit Go.Proofs.YtdbgaccnejffpaaGreatDoor.Ints Go.Proofs.YtdbgaccnejffpaaGreatDoor.Mem Go.Proofs.YtdbgaccnejffpaaGreatDoor.Src Go.Proofs.YtdbgaccnejffpaaGreatDoor.Tree Go.Proofs.YtdbgaccnejffpaaGreatDoor.BitsWalks Go.Proofs.YtdbgaccnejffpaaGreatDoor.RdW
def nst : RE → Nat
 | .test _ => 1
 | .alt a b => nst a + nst b
 | .seq a b => nst a + nst b
 | .many a => nst a + 2
 | _ => 0
def nsp : RE → Nat
 | .step => 1
 | .alt a b => nsp a + nsp b
 | .seq a b => nsp a + nsp b
 | .many a => nsp a
 | _ => 0
theorem st_len : ∀ (x : RE) (s t p k : Nat), (stE x s t p k).length = nst x := by
 intro x
 induction x with
 | no => intro s t p k; rfl
 | step => intro s t p k; rfl
 | test x => intro s t p k; rfl
 | alt a b iha ihb => intro s t p k; simp only [stE, nst, List.length_append, iha, ihb]
 | seq a b iha ihb => intro s t p k; simp only [stE, nst, List.length_append, iha, ihb]
 | many a iha => intro s t p k; simp only [stE, nst, List.length_append, List.length_cons, List.length_nil, iha]
theorem sp_len : ∀ (x : RE) (s t p : Nat), (spE x s t p).length = nsp x := by
 intro x
 induction x with
 | no => intro s t p; rfl
 | step => intro s t p; rfl
 | test x => intro s t p; rfl
 | alt a b iha ihb => intro s t p; simp only [spE, nsp, List.length_append, iha, ihb]
 | seq a b iha ihb => intro s t p; simp only [spE, nsp, List.length_append, iha, ihb]
 | many a iha => intro s t p; simp only [spE, nsp, iha]
structure LIn (w0 : World) (A : Option Addr) (n c : Nat) (l : List Nd) : Prop where
 nodes : Nodes Tree.Any w0 A l
 may : mayL l = true
 len : l.length = n
 cap : n ≤ c
 small : n ≤ 1048576
theorem LIn.rin {w0 : World} {A : Option Addr} {n c : Nat} {l : List Nd} (h : LIn w0 A n c l) : RIn w0 A n l none 0 [] none 0 (fun _ => []) :=
 ⟨h.nodes, h.may, h.len, h.small, ⟨rfl, by simp, fun h => by omega⟩, by omega, fun h => by omega, by omega⟩
theorem node_cells {w0 : World} {A : Option Addr} {n c : Nat} {l : List Nd} (h : LIn w0 A n c l) {i : Nat} (hi : i < n) : ∃ (b off : Nat) (nd : Nd) (K : Option Addr) (cK : Nat), A = some ⟨b, off, none⟩ ∧ nd.kind = kindN l i ∧ ∀ W, Below w0.heap.size w0 W →
  W.cell? ⟨b, off + i * 5, none⟩ = some (.int .i64 nd.kind) ∧ W.cell? ⟨b, off + i * 5 + 4, none⟩ = some (.slice K nd.kids.length cK) := by
 have hl := h.len
 obtain ⟨b, off, rfl, hns⟩ := h.nodes (by omega)
 obtain ⟨nd, hnd⟩ : ∃ nd, l[i]? = some nd := ⟨_, List.getElem?_eq_getElem (by omega)⟩
 obtain ⟨x0, x1, x2, x3, s0, s2, s3, s1, K, cK, x4, -⟩ := hns i nd hnd
 rw [Nat.mul_comm 5 i] at x0 x4
 exact ⟨b, off, nd, K, cK, rfl, (kind_of hnd).symm, fun W hb => ⟨Mem.below_cell hb x0, Mem.below_cell hb x4⟩⟩
def LayC (w0 : World) (A : Option Addr) (n c i : Nat) (x : RE) : Prop := ∀ (w : World) (s t gp np nt : Nat) (st sp : List Ed), Below w0.heap.size w0 w → GMemE w w0.heap.size gp np nt st sp → s ≤ 4194304 → t ≤ 4194304 →
 np + npl x ≤ 4194304 → nt + nts x ≤ 4194304 → st.length + nst x ≤ 4194304 → sp.length + nsp x ≤ 4194304 →
 Calls Tryz.prog 98 #[.pointer (some ⟨gp, 0, none⟩), .slice A n c, .int .i64 (i : Nat), .int .i64 (s : Nat), .int .i64 (t : Nat)] w fun e w' =>
  e = .returned (.tuple #[]) ∧ GMemE w' w0.heap.size gp (np + npl x) (nt + nts x) (st ++ stE x s t np nt) (sp ++ spE x s t np) ∧ Below w0.heap.size w w'
set_option maxRecDepth 100000 in
set_option maxHeartbeats 4000000 in
theorem lay_step {w0 : World} {A : Option Addr} {n c : Nat} {l : List Nd} (h : LIn w0 A n c l) {i : Nat} (hi : i < n) (hk : kindN l i = 18) : LayC w0 A n c i .step := by
 intro w s t gp np nt st sp hb hg hs ht h1 h2 h3 h4
 obtain ⟨b, off, nd, K, cK, rfl, hkd, HX⟩ := node_cells h hi
 obtain ⟨x0, x4⟩ := HX w hb
 rw [hkd, hk] at x0
 obtain ⟨sv, pv, hg⟩ := hg
 obtain ⟨i1, hi1, hy0, hy1, hy2⟩ := info_parts infoEd
 have hal : Below w.heap.size w (w.alloc (.cells #[.int .i64 (s : Nat), .int .i64 (t : Nat), .int .i64 (-1)] 129)) := (Below.refl _ _).alloc (Nat.le_refl _) _
 have HM := Lib.hid (hg.later hal)
 have HN := Lib.hid (heap_alloc_new w (.cells #[.int .i64 (s : Nat), .int .i64 (t : Nat), .int .i64 (-1)] 129))
 have HB0 := Lib.hid (hal.mono hg.hb)
 have HSZ := Lib.hid (show sp.length + 1 ≤ maxLen ∧ (sp.length + 1) * 24 ≤ 140737488355328 by have q : maxLen = 9223372036854775807 := rfl; have : nsp .step = 1 := rfl; omega)
 have c3 := hg.blk.cell 3 rfl
 have b3 := HM.out.blk.cell 3 rfl
 have f3 := HM.out.blk.fz 3 rfl
 have hin : ((i : Nat) : Int) < (n : Int) := by omega
 clear hg HX h hkd hk h1 h2 h3 h4 hs ht
 go_enter Tryz.func98, Tryz.ntmps98
 go_wp2_with (at_builtin; refine wpList_append_lies (w := w.alloc (.cells #[.int .i64 (s : Nat), .int .i64 (t : Nat), .int .i64 (-1)] 129)) rfl (.tmp 29) (.tmp 33) 123 rfl w0.heap.size 129 i1 _ 3 24 Tryz.underlying123 hi1 hy0 hy1 hy2 rfl (by decide) pv sp.length _ (by rfl) HM.out.sps ⟨w.heap.size, 0, none⟩ 1 1 (cellsEd (s, t, -1)) (by rfl) rfl (World.news_of_block HN.out) (cellsEd_one _) (by decide) HSZ.out.1 HSZ.out.2 HM.out.hb _ rfl ?_; intro q cap w3 hown hgr hq hlt; have k3 := (HM.out.blk.grown hgr (fun e => HM.out.pg e.symm)).cell 3 rfl; have y3 := (HM.out.blk.grown hgr (fun e => HM.out.pg e.symm)).fz 3 rfl)
 go_end0
 obtain ⟨hM, hB⟩ := HM.out.push_sp (s, t, -1) rfl hown hgr hq
 refine ⟨rfl, ?_, HB0.out.trans hB⟩
 rw [show st ++ stE .step s t np nt = st by simp [stE]]
 exact ⟨_, _, hM⟩
set_option maxRecDepth 100000 in
set_option maxHeartbeats 4000000 in
theorem lay_test {w0 : World} {A : Option Addr} {n c : Nat} {l : List Nd} (h : LIn w0 A n c l) {i : Nat} (hi : i < n) (hk : kindN l i = 19) (x : Nat) : LayC w0 A n c i (.test x) := by
 intro w s t gp np nt st sp hb hg hs ht h1 h2 h3 h4
 obtain ⟨b, off, nd, K, cK, rfl, hkd, HX⟩ := node_cells h hi
 obtain ⟨x0, x4⟩ := HX w hb
 rw [hkd, hk] at x0
 obtain ⟨sv, pv, hg⟩ := hg
 obtain ⟨i1, hi1, hy0, hy1, hy2⟩ := info_parts infoEd
 obtain ⟨V, hV⟩ : ∃ V, w.drew = V := ⟨_, rfl⟩
 have hd : Below w.heap.size w V := by rw [← hV]; exact (Below.refl _ _).drew
 have hal : Below V.heap.size V (V.alloc (.cells #[.int .i64 (s : Nat), .int .i64 (t : Nat), .int .i64 (nt : Nat)] 129)) := (Below.refl _ _).alloc (Nat.le_refl _) _
 have HMV := Lib.hid (hg.later hd)
 have HM := Lib.hid ((hg.later hd).later hal)
 have HN := Lib.hid (heap_alloc_new V (.cells #[.int .i64 (s : Nat), .int .i64 (t : Nat), .int .i64 (nt : Nat)] 129))
 have HB0 := Lib.hid ((hd.mono hg.hb).trans (hal.mono HMV.out.hb))
 have HSZ := Lib.hid (show st.length + 1 ≤ maxLen ∧ (st.length + 1) * 24 ≤ 140737488355328 by have q : maxLen = 9223372036854775807 := rfl; have : nst (.test x) = 1 := rfl; omega)
 have HNT := Lib.hid (show nt + 1 ≤ 4194304 from h2)
 have hin : ((i : Nat) : Int) < (n : Int) := by omega
 have HS0 := Lib.hid (show V.cell? ⟨gp, 2, none⟩ = some sv ∧ V.cell? ⟨gp, 1, none⟩ = some (.int .i64 (nt : Nat)) from ⟨HMV.out.blk.cell 2 rfl, HMV.out.blk.cell 1 rfl⟩)
 clear hg HX h hkd hk h1 h2 h3 h4 hs ht hd hal
 go_enter Tryz.func98, Tryz.ntmps98
 go_wp2_with fail
 refine Late.drew [16] (S := fun W => W.cell? ⟨gp, 2, none⟩ = some sv ∧ W.cell? ⟨gp, 1, none⟩ = some (.int .i64 (nt : Nat))) (by kernel_rfl) (by rw [hV]; exact HS0.out) (fun hHeld => ?_)
 rw [hV] at hHeld ⊢
 refine ltOp 0 hHeld ?_
 refine ltOp 1 hHeld ?_
 refine ltOp 2 hHeld ?_
 refine ltOp 3 hHeld ?_
 refine ltOp 4 hHeld ?_
 refine ltOp 5 hHeld ?_
 refine ltOp 6 hHeld ?_
 refine ltOp 7 hHeld ?_
 refine ltOp 8 hHeld ?_
 refine ltOp 9 hHeld ?_
 refine ltOp 10 hHeld ?_
 refine ltOp 11 hHeld ?_
 refine ltCall 12 (fun Kt hKt => ?_)
 go_simp
 refine hKt.out _ _ ?_ (fun hT => ?_)
 ·(exact ⟨HM.out.blk.cell 2 rfl, HM.out.blk.cell 1 rfl⟩)
 clear hKt Kt hHeld
 have hHeld := hT
 clear hT
 try simp only [Act.put, tkA, tkB, tkC]
 refine ltCall 13 (fun Kt hKt => ?_)
 (refine step_append_lies (w := V.alloc (.cells #[.int .i64 (s : Nat), .int .i64 (t : Nat), .int .i64 (nt : Nat)] 129)) rfl (.tmp 43) (.tmp 51) 123 rfl w0.heap.size 129 i1 _ 3 24 Tryz.underlying123 hi1 hy0 hy1 hy2 rfl (by decide) sv st.length _ (by rfl) HM.out.sts ⟨V.heap.size, 0, none⟩ 1 1 (cellsEd (s, t, ((nt : Nat) : Int))) (by rfl) rfl (World.news_of_block HN.out) (cellsEd_one _) (by decide) HSZ.out.1 HSZ.out.2 HM.out.hb _ rfl ?_; intro q cap w3 hown hgr hq hlt)
 refine hKt.out _ _ ?_ (fun hT => ?_)
 ·(exact ⟨(HM.out.blk.grown hgr (fun e => HM.out.sg e.symm)).cell 2 rfl, (HM.out.blk.grown hgr (fun e => HM.out.sg e.symm)).cell 1 rfl⟩)
 clear hKt Kt hHeld
 have hHeld := hT
 clear hT
 try simp only [Act.put, tkA, tkB, tkC]
 have k2 := (HM.out.blk.grown hgr (fun e => HM.out.sg e.symm)).cell 2 rfl
 have y2 := (HM.out.blk.grown hgr (fun e => HM.out.sg e.symm)).fz 2 rfl
 refine ltOp 14 hHeld ?_
 refine ltOp 15 hHeld ?_
 refine ltLast 16 (fun Kt hKt => ?_)
 go_simp
 refine hKt.out _ _ trivial (fun hT => ?_)
 clear hKt Kt hHeld
 have hHeld := hT
 clear hT
 try simp only [Act.put, tkA, tkB, tkC]
 refine wpAnyH_done (by kernel_rfl) ?_ _
 obtain ⟨hM, hB⟩ := HM.out.push_st (s, t, ((nt : Nat) : Int)) rfl hown hgr hq
 obtain ⟨W4, hW4⟩ : ∃ W4, w3.setCell ⟨gp, 2, none⟩ (.slice (some ⟨q, 0, none⟩) (st.length + 1) cap) = W4 := ⟨_, rfl⟩
 rw [hW4] at hM hB ⊢
 obtain ⟨m, hm⟩ : ∃ m, nt + 1 = m := ⟨_, rfl⟩
 obtain ⟨hM2, hB2⟩ := hM.test m
 have HM4 := Lib.hid hM2
 have HB4 := Lib.hid ((HB0.out.trans hB).trans hB2)
 have HE := Lib.hid hm
 have c1 := hM.blk.cell 1 rfl
 have g1 := hM.blk.fz 1 rfl
 have e1 : ((nt : Nat) : Int) + 1 = ((m : Nat) : Int) := by omega
 have hm' : ((nt : Nat) : Int) ≤ 4194304 := by have := HNT.out; omega
 clear hM hB hM2 hB2 hm hHeld hW4 k2 y2 hown hgr hq hlt HM HMV HN HB0 HS0
 go_wp2_with fail
 go_end0
 refine ⟨rfl, ?_, HB4.out⟩
 rw [show nt + nts (.test x) = m from HE.out, show sp ++ spE (.test x) s t np = sp by simp [spE]]
 exact ⟨_, _, HM4.out⟩
theorem kid_cells2 {w0 : World} {A : Option Addr} {n c : Nat} {l : List Nd} (h : LIn w0 A n c l) {i : Nat} (hi : i < n) {m : Nat} (hm : arity (kindN l i) = (m : Nat)) (h0 : 0 < m) :
  ∃ (b off Kb ko cK : Nat), A = some ⟨b, off, none⟩ ∧ m ≤ cK ∧ ∀ W, Below w0.heap.size w0 W → W.cell? ⟨b, off + i * 5, none⟩ = some (.int .i64 (kindN l i)) ∧ W.cell? ⟨b, off + i * 5 + 4, none⟩ = some (.slice (some ⟨Kb, ko, none⟩) m cK) ∧
   ∀ j, j < m → W.cell? ⟨Kb, ko + j, none⟩ = some (.int .i64 ((kidN l i j : Nat) : Int)) := by
 obtain ⟨b, off, nd, Kb, ko, cK, e, hkd, hc, -, HX⟩ := node_kids h.rin hi hm h0
 refine ⟨b, off, Kb, ko, cK, e, hc, fun W hb => ?_⟩
 obtain ⟨y0, -, -, -, y4, y5⟩ := HX W hb
 rw [hkd] at y0
 exact ⟨y0, y4, y5⟩
set_option maxRecDepth 100000 in
set_option maxHeartbeats 4000000 in
theorem lay_alt {w0 : World} {A : Option Addr} {n c : Nat} {l : List Nd} (h : LIn w0 A n c l) {i : Nat} (hi : i < n) (hk : kindN l i = 20) {a b : RE} (iha : LayC w0 A n c (kidN l i 0) a) (ihb : LayC w0 A n c (kidN l i 1) b) : LayC w0 A n c i (.alt a b) := by
 intro w s t gp np nt st sp hb hg hs ht h1 h2 h3 h4
 have e1 : npl (.alt a b) = npl a + npl b := rfl
 have e2 : nts (.alt a b) = nts a + nts b := rfl
 have e3 : nst (.alt a b) = nst a + nst b := rfl
 have e4 : nsp (.alt a b) = nsp a + nsp b := rfl
 obtain ⟨bl, off, Kb, ko, cK, rfl, hcK, HX⟩ := kid_cells2 h hi (m := 2) (by rw [hk]; rfl) (by decide)
 obtain ⟨x0, x4, xk⟩ := HX w hb
 have y0 := xk 0 (by decide)
 rw [Nat.add_zero] at y0
 rw [hk] at x0
 obtain ⟨k0, hk0⟩ : ∃ k, kidN l i 0 = k := ⟨_, rfl⟩
 obtain ⟨k1, hk1⟩ : ∃ k, kidN l i 1 = k := ⟨_, rfl⟩
 have HK1 := Lib.hid (fun W hb => (HX W hb).2.2 1 (by decide))
 rw [hk1] at HK1 ihb
 rw [hk0] at y0 iha
 have HA := Lib.hid (iha w s t gp np nt st sp hb hg hs ht (by omega) (by omega) (by omega) (by omega))
 have HB := Lib.hid (fun W (hbW : Below w0.heap.size w0 W) hgW => ihb W s t gp (np + npl a) (nt + nts a) (st ++ stE a s t np nt) (sp ++ spE a s t np) hbW hgW hs ht (by omega) (by omega) (by rw [List.length_append, st_len]; omega) (by rw [List.length_append, sp_len]; omega))
 have HB0 := Lib.hid hb
 have hin : ((i : Nat) : Int) < (n : Int) := by omega
 clear hg HX h hk hk0 hk1 h1 h2 h3 h4 hs ht e1 e2 e3 e4 iha ihb hb xk
 go_enter Tryz.func98, Tryz.ntmps98
 go_wp2_with fail
 refine HA.out.mono ?_
 rintro e w1 ⟨rfl, hg1, hb1⟩
 have y1 := HK1.out w1 (HB0.out.trans hb1)
 have HB1 := Lib.hid (HB.out w1 (HB0.out.trans hb1) hg1)
 have HBL := Lib.hid hb1
 clear hg1 hb1 HA HB HK1
 go_wp2_with fail
 refine HB1.out.mono ?_
 rintro e w2 ⟨rfl, hg2, hb2⟩
 go_wp2_with fail
 go_end0
 refine ⟨rfl, ?_, HBL.out.trans hb2⟩
 simp only [npl, nts, stE, spE, ← List.append_assoc]
 rw [← Nat.add_assoc np, ← Nat.add_assoc nt]
 exact hg2
set_option maxRecDepth 100000 in
set_option maxHeartbeats 4000000 in
theorem lay_seq {w0 : World} {A : Option Addr} {n c : Nat} {l : List Nd} (h : LIn w0 A n c l) {i : Nat} (hi : i < n) (hk : kindN l i = 21) {a b : RE} (iha : LayC w0 A n c (kidN l i 0) a) (ihb : LayC w0 A n c (kidN l i 1) b) : LayC w0 A n c i (.seq a b) := by
 intro w s t gp np nt st sp hb hg hs ht h1 h2 h3 h4
 have e1 : npl (.seq a b) = 1 + (npl a + npl b) := rfl
 have e2 : nts (.seq a b) = nts a + nts b := rfl
 have e3 : nst (.seq a b) = nst a + nst b := rfl
 have e4 : nsp (.seq a b) = nsp a + nsp b := rfl
 obtain ⟨bl, off, Kb, ko, cK, rfl, hcK, HX⟩ := kid_cells2 h hi (m := 2) (by rw [hk]; rfl) (by decide)
 obtain ⟨x0, x4, -⟩ := HX w hb
 rw [hk] at x0
 obtain ⟨k0, hk0⟩ : ∃ k, kidN l i 0 = k := ⟨_, rfl⟩
 obtain ⟨k1, hk1⟩ : ∃ k, kidN l i 1 = k := ⟨_, rfl⟩
 have HK0 := Lib.hid (fun W hb => (HX W hb).2.2 0 (by decide))
 have HK1 := Lib.hid (fun W hb => (HX W hb).2.2 1 (by decide))
 rw [hk1] at HK1 ihb
 rw [hk0] at HK0 iha
 have HPL := Lib.hid (landPlace w0.heap.size gp np nt st sp w hg (by omega))
 have HA := Lib.hid (fun W (hbW : Below w0.heap.size w0 W) hgW => iha W s np gp (np + 1) nt st sp hbW hgW hs (by omega) (by omega) (by omega) (by omega) (by omega))
 have HB := Lib.hid (fun W (hbW : Below w0.heap.size w0 W) hgW => ihb W np t gp (np + 1 + npl a) (nt + nts a) (st ++ stE a s np (np + 1) nt) (sp ++ spE a s np (np + 1)) hbW hgW (by omega) ht (by omega) (by omega) (by rw [List.length_append, st_len]; omega) (by rw [List.length_append, sp_len]; omega))
 have HB0 := Lib.hid hb
 have hin : ((i : Nat) : Int) < (n : Int) := by omega
 clear hg HX h hk hk0 hk1 h1 h2 h3 h4 hs ht e1 e2 e3 e4 iha ihb hb
 go_enter Tryz.func98, Tryz.ntmps98
 go_wp2_with fail
 refine HPL.out.mono ?_
 rintro e w3 ⟨rfl, hg3, hb3⟩
 have y0 := HK0.out w3 (HB0.out.trans hb3)
 rw [Nat.add_zero] at y0
 have HA1 := Lib.hid (HA.out w3 (HB0.out.trans hb3) hg3)
 have HBL3 := Lib.hid hb3
 clear hg3 hb3 HA HPL HK0
 go_wp2_with fail
 refine HA1.out.mono ?_
 rintro e w1 ⟨rfl, hg1, hb1⟩
 have hb1 := HBL3.out.trans hb1
 have y1 := HK1.out w1 (HB0.out.trans hb1)
 have HB1 := Lib.hid (HB.out w1 (HB0.out.trans hb1) hg1)
 have HBL := Lib.hid hb1
 clear hg1 hb1 HA1 HB HK1
 go_wp2_with fail
 refine HB1.out.mono ?_
 rintro e w2 ⟨rfl, hg2, hb2⟩
 go_wp2_with fail
 go_end0
 refine ⟨rfl, ?_, HBL.out.trans hb2⟩
 simp only [npl, nts, stE, spE, ← List.append_assoc]
 rw [show np + (1 + (npl a + npl b)) = np + 1 + npl a + npl b by omega, ← Nat.add_assoc nt]
 exact hg2
set_option maxRecDepth 100000 in
set_option maxHeartbeats 4000000 in
theorem lay_many {w0 : World} {A : Option Addr} {n c : Nat} {l : List Nd} (h : LIn w0 A n c l) {i : Nat} (hi : i < n) (hk : kindN l i = 22) {a : RE} (iha : LayC w0 A n c (kidN l i 0) a) : LayC w0 A n c i (.many a) := by
 intro w s t gp np nt st sp hb hg hs ht h1 h2 h3 h4
 have e1 : npl (.many a) = 1 + npl a := rfl
 have e2 : nts (.many a) = nts a := rfl
 have e3 : nst (.many a) = nst a + 2 := rfl
 have e4 : nsp (.many a) = nsp a := rfl
 obtain ⟨bl, off, Kb, ko, cK, rfl, hcK, HX⟩ := kid_cells2 h hi (m := 1) (by rw [hk]; rfl) (by decide)
 obtain ⟨x0, x4, -⟩ := HX w hb
 rw [hk] at x0
 obtain ⟨k0, hk0⟩ : ∃ k, kidN l i 0 = k := ⟨_, rfl⟩
 have HK0 := Lib.hid (fun W hb => (HX W hb).2.2 0 (by decide))
 rw [hk0] at HK0 iha
 have hKb : Kb < w0.heap.size := World.block_lt_of_cell? w0 _ (HK0.out w0 (Below.refl _ _))
 have HKB := Lib.hid hKb
 have HPL := Lib.hid (landPlace w0.heap.size gp np nt st sp w hg (by omega))
 have HA := Lib.hid (fun W (hbW : Below w0.heap.size w0 W) hgW => iha W np np gp (np + 1) nt (st ++ [(s, np, -1)]) sp hbW hgW (by omega) (by omega) (by omega) (by omega) (by rw [List.length_append]; show st.length + 1 + nst a ≤ _; omega) (by omega))
 have HB0 := Lib.hid hb
 have hin : ((i : Nat) : Int) < (n : Int) := by omega
 obtain ⟨i1, hi1, hy0, hy1, hy2⟩ := info_parts infoEd
 have HSZ := Lib.hid (show ∀ k, k ≤ 4194304 → k + 1 ≤ maxLen ∧ (k + 1) * 24 ≤ 140737488355328 from fun k hk => by have q : maxLen = 9223372036854775807 := rfl; omega)
 have HST := Lib.hid (show st.length + nst a + 2 ≤ 4194304 by omega)
 clear hg HX h hk hk0 h1 h2 h3 h4 hs ht e1 e2 e3 e4 iha hb hKb
 go_enter Tryz.func98, Tryz.ntmps98
 go_wp2_with fail
 refine HPL.out.mono ?_
 rintro e w3 ⟨rfl, ⟨sv, pv, hg3⟩, hb3⟩
 have hal : Below w3.heap.size w3 (w3.alloc (.cells #[.int .i64 (s : Nat), .int .i64 (np : Nat), .int .i64 (-1)] 129)) := (Below.refl _ _).alloc (Nat.le_refl _) _
 have HM := Lib.hid (hg3.later hal)
 have HN := Lib.hid (heap_alloc_new w3 (.cells #[.int .i64 (s : Nat), .int .i64 (np : Nat), .int .i64 (-1)] 129))
 have HBL3 := Lib.hid (hb3.trans (hal.mono hg3.hb))
 have c2 := hg3.blk.cell 2 rfl
 have b2 := HM.out.blk.cell 2 rfl
 have f2 := HM.out.blk.fz 2 rfl
 have hz := HSZ.out st.length (by have := HST.out; omega)
 have HZ := Lib.hid hz
 clear hg3 hb3 HPL hal hz
 go_wp2_with (at_builtin; refine wpList_append_lies (w := w3.alloc (.cells #[.int .i64 (s : Nat), .int .i64 (np : Nat), .int .i64 (-1)] 129)) rfl (.tmp 108) (.tmp 112) 123 rfl w0.heap.size 129 i1 _ 3 24 Tryz.underlying123 hi1 hy0 hy1 hy2 rfl (by decide) sv st.length _ (by rfl) HM.out.sts ⟨w3.heap.size, 0, none⟩ 1 1 (cellsEd (s, np, -1)) (by rfl) rfl (World.news_of_block HN.out) (cellsEd_one _) (by decide) HZ.out.1 HZ.out.2 HM.out.hb _ rfl ?_; intro q cap w4 hown hgr hq hlt; have k2 := (HM.out.blk.grown hgr (fun e => HM.out.sg e.symm)).cell 2 rfl; have y2 := (HM.out.blk.grown hgr (fun e => HM.out.sg e.symm)).fz 2 rfl; obtain ⟨hM, hB⟩ := HM.out.push_st (s, np, -1) rfl hown hgr hq; have HM5 := Lib.hid hM; have HB5 := Lib.hid (HBL3.out.trans hB); have z0 := HK0.out _ (HB0.out.trans HB5.out); have z1 := HK0.out _ (HB0.out.trans (HBL3.out.trans (grown_low hgr HM.out.hb (fun b hb => (HM.out.sts.lt b hb).1)))); rw [Nat.add_zero] at z0 z1; have hne : ¬ Kb = gp := (fun e => by have := HKB.out; have := HM.out.hg; omega); clear hown hgr hq hlt hM hB)
 have HA1 := Lib.hid (HA.out _ (HB0.out.trans HB5.out) ⟨_, _, HM5.out⟩)
 refine HA1.out.mono ?_
 rintro e w1 ⟨rfl, ⟨sv1, pv1, hg1⟩, hb1⟩
 have hbb := HB5.out.trans hb1
 clear hb1
 obtain ⟨st1, hst1⟩ : ∃ st1, st ++ [(s, np, -1)] ++ stE a np np (np + 1) nt = st1 := ⟨_, rfl⟩
 obtain ⟨sp1, hsp1⟩ : ∃ sp1, sp ++ spE a np np (np + 1) = sp1 := ⟨_, rfl⟩
 have hl1 : st1.length = st.length + 1 + nst a := by rw [← hst1, List.length_append, List.length_append, st_len]; rfl
 rw [hst1, hsp1] at hg1
 have hal1 : Below w1.heap.size w1 (w1.alloc (.cells #[.int .i64 (np : Nat), .int .i64 (t : Nat), .int .i64 (-1)] 129)) := (Below.refl _ _).alloc (Nat.le_refl _) _
 have HM1 := Lib.hid (hg1.later hal1)
 have HN1 := Lib.hid (heap_alloc_new w1 (.cells #[.int .i64 (np : Nat), .int .i64 (t : Nat), .int .i64 (-1)] 129))
 have HBL1 := Lib.hid (hbb.trans (hal1.mono hg1.hb))
 have d2 := hg1.blk.cell 2 rfl
 have v2 := HM1.out.blk.cell 2 rfl
 have h2 := HM1.out.blk.fz 2 rfl
 have hz := HSZ.out st1.length (by have := HST.out; omega)
 have HZ1 := Lib.hid hz
 have HE := Lib.hid (And.intro hst1 hsp1)
 clear hg1 hbb hal1 HA HA1 hz hst1 hsp1 hl1 z0 z1 hne k2 y2 HM5 HB5 HM HN HBL3 c2 b2 f2 HK0
 go_wp2_with (at_builtin; refine wpList_append_lies (w := w1.alloc (.cells #[.int .i64 (np : Nat), .int .i64 (t : Nat), .int .i64 (-1)] 129)) rfl (.tmp 128) (.tmp 132) 123 rfl w0.heap.size 129 i1 _ 3 24 Tryz.underlying123 hi1 hy0 hy1 hy2 rfl (by decide) sv1 st1.length _ (by rfl) HM1.out.sts ⟨w1.heap.size, 0, none⟩ 1 1 (cellsEd (np, t, -1)) (by rfl) rfl (World.news_of_block HN1.out) (cellsEd_one _) (by decide) HZ1.out.1 HZ1.out.2 HM1.out.hb _ rfl ?_; intro q2 cap2 w5 hown5 hgr5 hq5 hlt5; have k5 := (HM1.out.blk.grown hgr5 (fun e => HM1.out.sg e.symm)).cell 2 rfl; have y5 := (HM1.out.blk.grown hgr5 (fun e => HM1.out.sg e.symm)).fz 2 rfl)
 go_end0
 obtain ⟨hM, hB⟩ := HM1.out.push_st (np, t, -1) rfl hown5 hgr5 hq5
 refine ⟨rfl, ?_, HBL1.out.trans hB⟩
 rw [← HE.out.1, ← HE.out.2] at hM
 simp only [npl, nts, stE, spE]
 rw [show np + (1 + npl a) = np + 1 + npl a by omega, show st ++ (s, np, -1) :: (stE a np np (np + 1) nt ++ [(np, t, -1)]) = st ++ [(s, np, -1)] ++ stE a np np (np + 1) nt ++ [(np, t, -1)] by simp]
 rw [HE.out.1, HE.out.2] at hM
 rw [HE.out.1, HE.out.2]
 exact ⟨_, _, hM⟩
end Go.Proofs.YtdbgaccnejffpaaGreatDoor.Paths
