/-
  The landed judge in memory: its block, the row of its nodes' truth; take, kid (stage 15). By an AI agent.
  What the landed helpers reckon is the node's truth, kind by kind (stage 15). By an AI agent.
  Truth, told backwards (stage 15). By an AI agent.
  A formula with the past's signs for the future's, or the other way round; a formula of time told backwards (stage 15). By an AI agent.
-/
import Derived.Test.YtdbgaccnejffpaaGreatGSatPast21
import Derived.Test.YtdbgaccnejffpaaGreatGSatPast4
import Derived.Test.YtdbgaccnejffpaaGreatGSatPast14
namespace Go.Proofs.YtdbgaccnejffpaaGreat.Sat
open Go.RowKit Go.Proofs.YtdbgaccnejffpaaGreat.Ints Go.Proofs.YtdbgaccnejffpaaGreat.Mem Go.Proofs.YtdbgaccnejffpaaGreat.Src Go.Proofs.YtdbgaccnejffpaaGreat.Paths Go.Proofs.YtdbgaccnejffpaaGreat.Late Go.Proofs.YtdbgaccnejffpaaGreat.Trace

noncomputable def tvB (J : Jd) (i p : Nat) : Bool := @decide (sem (tmOf J.t) (foI J.l i) p p) (Classical.propDecidable _)
theorem tv_iff (J : Jd) (i p : Nat) : tvB J i p = true ↔ sem (tmOf J.t) (foI J.l i) p p := @decide_eq_true_iff _ (Classical.propDecidable _)
theorem tv_eq {J : Jd} {i p : Nat} {b : Bool} (h : sem (tmOf J.t) (foI J.l i) p p ↔ b = true) : tvB J i p = b := by
 rw [Bool.eq_iff_iff, tv_iff]
 exact h
structure JS (J : Jd) (w0 : World) (σ : List Value) (W : World) : Prop where
 tr : TrOk Any w0 J.NA J.nn J.nc J.EA J.n J.ec J.t
 nodes : Tree.Nodes Tree.Any w0 J.LA J.l
 lcap : J.l.length ≤ J.lc ∧ J.lc ≤ maxLen
 mt : mayT J.t = true
 ml : Tree.mayL J.l = true
 hn : J.n ≤ 64
 hl : J.l.length ≤ 1000
 low : Below w0.heap.size w0 W
 blk : Blk W J.gj [.slice J.NA J.nn J.nc, .slice J.EA J.n J.ec, .slice J.LA J.l.length J.lc, .slice (some ⟨J.bt, 0, none⟩) J.l.length J.l.length]
 row : W.ownsRow w0.heap.size 32 1 (.slice (some ⟨J.bt, 0, none⟩) J.l.length J.l.length) J.l.length σ
 hg : w0.heap.size ≤ J.gj
 ne : J.gj ≠ J.bt
section
variable {J : Jd} {w0 W W' : World} {σ : List Value}
theorem JS.jw (h : JS J w0 σ W) : JW J W :=
 ⟨h.blk.cell 0 rfl, h.blk.cell 1 rfl, h.blk.cell 2 rfl, h.blk.cell 3 rfl, h.tr.below h.low, h.nodes.below h.low, h.lcap, h.mt, h.ml, h.hn, h.hl⟩
theorem JS.len (h : JS J w0 σ W) : σ.length = J.l.length := by have := h.row.1; rwa [Nat.mul_one] at this
theorem JS.bt0 (h : JS J w0 σ W) : w0.heap.size ≤ J.bt ∧ J.bt < W.heap.size := World.ownsRow.lt h.row J.bt rfl
theorem JS.later (h : JS J w0 σ W) (hb : Below W.heap.size W W') : JS J w0 σ W' :=
 ⟨h.tr, h.nodes, h.lcap, h.mt, h.ml, h.hn, h.hl, h.low.trans (hb.mono h.low.size), h.blk.later hb, below_row h.row hb, h.hg, h.ne⟩
theorem JS.kept {o : Nat} (h : JS J w0 σ W) (hg : W.grownBy W' (some o)) (h0 : w0.heap.size ≤ o) (h1 : J.gj ≠ o) (h2 : J.bt ≠ o) : JS J w0 σ W' :=
 ⟨h.tr, h.nodes, h.lcap, h.mt, h.ml, h.hn, h.hl, h.low.trans ⟨hg.os, hg.tape, hg.output, hg.size, fun k hk => hg.block k (by have := h.low.size; omega) (fun e => by injection e; omega)⟩, h.blk.grown hg (fun e => h1 (by injection e)), World.ownsRow.kept h.row hg (.inr (fun e => h2 (by injection e))), h.hg, h.ne⟩
theorem JS.put (h : JS J w0 σ W) (i : Nat) (v : Value) : JS J w0 (σ.set i v) (W.setCell ⟨J.bt, i, none⟩ v) :=
 ⟨h.tr, h.nodes, h.lcap, h.mt, h.ml, h.hn, h.hl, h.low.setCell (p := ⟨J.bt, i, none⟩) h.bt0.1 v, h.blk.other _ _ h.ne, own_put h.row v, h.hg, h.ne⟩
theorem JS.at (h : JS J w0 σ W) {i : Nat} {v : Value} (hv : σ[i]? = some v) : W.cell? ⟨J.bt, i, none⟩ = some v := by
 have := World.ownsRow.cells h.row (g := J.bt) rfl i v hv
 rwa [Addr.add_lit, Nat.zero_add] at this
end
theorem grown_any {w w' : World} {o : Nat} (h : Below w.heap.size w w') : w.grownBy w' (some o) := ⟨h.os, h.tape, h.output, h.size, fun k hk _ => h.block k hk⟩
theorem cell_grown {w w' : World} {b k o : Nat} {u : Value} (hg : w.grownBy w' (some o)) (h : w.cell? ⟨b, k, none⟩ = some u) (hne : b ≠ o) : w'.cell? ⟨b, k, none⟩ = some u := hg.cell h (fun e => hne (by injection e))
def Tv (J : Jd) (W : World) (i : Nat) (v : Value) : Prop := ∃ b, v = .slice (some ⟨b, 0, none⟩) J.n J.n ∧ b ≠ J.bt ∧ b < W.heap.size ∧ RB W b J.n (tvB J i) ∧ OB W J.gj b J.n (tvB J i)
theorem Tv.grown {J : Jd} {W W' : World} {i : Nat} {v : Value} (h : Tv J W i v) (hg : W.grownBy W' (some J.bt)) : Tv J W' i v := by
 obtain ⟨b, e, hne, hlt, hr, ho⟩ := h
 exact ⟨b, e, hne, Nat.lt_of_lt_of_le hlt hg.size, hr.grown hg hne, ho.same (hg.block b hlt (fun e => hne (by injection e)))⟩
def Live (J : Jd) (k : Nat) (σ : List Value) (W : World) : Prop := ∀ i, i < k → ¬ dead J.l k i → (Tree.formKind (kindN J.l i) = true ∨ kindN J.l i = 19) → ∃ v, σ[i]? = some v ∧ Tv J W i v
theorem Live.grown {J : Jd} {k : Nat} {σ : List Value} {W W' : World} (h : Live J k σ W) (hg : W.grownBy W' (some J.bt)) : Live J k σ W' := fun i h1 h2 h3 => by
 obtain ⟨v, e, ht⟩ := h i h1 h2 h3
 exact ⟨v, e, ht.grown hg⟩
structure Nv (J : Jd) (w0 : World) (k : Nat) (nd : Tree.Nd) (K : Option Addr) (m c : Nat) : Prop where
 hk : J.l[k]? = some nd
 len : m = Tree.kidc nd.kind
 cap : m ≤ c
 kids : ∀ j, j < m → ∃ b o, K = some ⟨b, o, none⟩ ∧ w0.cell? ⟨b, o + j, none⟩ = some (.int .i64 ((kidN J.l k j : Nat) : Int)) ∧ kidN J.l k j < k
theorem JS.node {J : Jd} {w0 W : World} {σ : List Value} (h : JS J w0 σ W) {k : Nat} (hk : k < J.l.length) : ∃ (b off : Nat) (nd : Tree.Nd) (K : Option Addr) (m c : Nat), J.LA = some ⟨b, off, none⟩ ∧ Nv J w0 k nd K m c ∧ c ≤ maxLen ∧ nd.name.size ≤ maxLen ∧
   w0.cell? ⟨b, off + k * 5, none⟩ = some (.int .i64 nd.kind) ∧ w0.cell? ⟨b, off + k * 5 + 1, none⟩ = some (.string nd.name) ∧ w0.cell? ⟨b, off + k * 5 + 2, none⟩ = some (.int .i64 nd.lo) ∧ w0.cell? ⟨b, off + k * 5 + 3, none⟩ = some (.int .i64 nd.hi) ∧ w0.cell? ⟨b, off + k * 5 + 4, none⟩ = some (.slice K m c) := by
 obtain ⟨b, off, e, hns⟩ := h.nodes (by omega)
 obtain ⟨nd, hnd⟩ : ∃ nd, J.l[k]? = some nd := ⟨_, List.getElem?_eq_getElem hk⟩
 obtain ⟨x0, x1, x2, x3, s0, s2, s3, s1, K, cK, x4, xr, hc, hcm, -⟩ := hns k nd hnd
 rw [Nat.mul_comm 5 k] at x0 x1 x2 x3 x4
 obtain ⟨st, hO, hz, hl, -, -⟩ := node_over h.ml hnd
 have hlen : nd.kids.length = Tree.kidc nd.kind := by rw [hz]; unfold Tree.zints; rw [List.length_map, hl]
 refine ⟨b, off, nd, K, nd.kids.length, cK, e, ⟨hnd, hlen, hc, fun j hj => ?_⟩, hcm, s1, x0, x1, x2, x3, x4⟩
 obtain ⟨Kb, ko, rfl, hcs⟩ := Rd.cell xr (by omega)
 have hkd := kind_of hnd
 have hlt : kidN J.l k j < k := by
   rcases kidc_ways nd.kind with e | e | e
   · omega
   · obtain rfl : j = 0 := by omega
     exact kidN_one h.ml hk (by rw [hkd]; exact e)
   · obtain ⟨a1, a2⟩ := kidN_two h.ml hk (by rw [hkd]; exact e)
     obtain rfl | rfl : j = 0 ∨ j = 1 := by omega
     · exact a1
     · exact a2
 refine ⟨Kb, ko, rfl, ?_, hlt⟩
 have h2 := hcs j hj
 have hz0 : 0 ≤ nd.kids[j]?.getD 0 := by
   rw [hz]
   unfold Tree.zints
   rw [List.getElem?_map]
   cases st[j]? with
   | none => exact Int.le_refl _
   | some z => exact Int.natCast_nonneg z
 have hkN : ((kidN J.l k j : Nat) : Int) = nd.kids[j]?.getD 0 := by
   unfold kidN
   rw [hnd]
   show (((nd.kids[j]?.getD 0).toNat : Nat) : Int) = _
   omega
 rw [hkN]
 exact h2
set_option maxHeartbeats 8000000 in
set_option maxRecDepth 100000 in
theorem landTake (J : Jd) (w0 : World) (σ : List Value) (i : Nat) (A : Option Addr) (q c : Nat) (w : World) (h : JS J w0 σ w) (hi : i < J.l.length) (hv : σ[i]? = some (.slice A q c)) :
   Calls Tryz.prog 22 #[.pointer (some ⟨J.gj, 0, none⟩), .int .i64 ((i : Nat) : Int)] w fun e w' => e = .returned (.slice A q c) ∧ JS J w0 (σ.set i (.slice none 0 0)) w' ∧ w.grownBy w' (some J.bt) := by
 have HP := Lib.hid (h.put i (.slice none 0 0))
 have HG := Lib.hid (grown_cell w ⟨J.bt, i, none⟩ (.slice none 0 0))
 have c3 := h.blk.cell 3 rfl
 have x1 := h.at hv
 have f1 := own_fz h.row i
 have hii : ((i : Nat) : Int) < ((J.l.length : Nat) : Int) := by omega
 obtain ⟨g, hg⟩ : ∃ g, J.gj = g := ⟨_, rfl⟩
 obtain ⟨t, ht⟩ : ∃ t, J.bt = t := ⟨_, rfl⟩
 obtain ⟨n, hn⟩ : ∃ n, J.l.length = n := ⟨_, rfl⟩
 rw [hg] at c3 ⊢
 rw [ht] at c3 x1 f1 HP HG ⊢
 rw [hn] at c3 hii
 clear h hv hi hg hn ht
 go_enter Tryz.func22, Tryz.ntmps22
 go_wp2_with fail
 go_ret
 exact ⟨rfl, HP.out, HG.out⟩
set_option maxHeartbeats 8000000 in
set_option maxRecDepth 100000 in
theorem landKid (J : Jd) (w0 : World) (σ : List Value) (k j : Nat) (nd : Tree.Nd) (K : Option Addr) (m c : Nat) (A : Option Addr) (q d : Nat) (w : World) (h : JS J w0 σ w) (hnv : Nv J w0 k nd K m c) (hj : j < m) (hv : σ[kidN J.l k j]? = some (.slice A q d)) :
   Calls Tryz.prog 39 #[.pointer (some ⟨J.gj, 0, none⟩), Tree.ndV nd K m c, .int .i64 ((j : Nat) : Int)] w fun e w' => e = .returned (.slice A q d) ∧ JS J w0 (σ.set (kidN J.l k j) (.slice none 0 0)) w' ∧ w.grownBy w' (some J.bt) := by
 obtain ⟨b, o, rfl, x1, hlt⟩ := hnv.kids j hj
 have hkl := (List.getElem?_eq_some_iff.1 hnv.hk).1
 obtain ⟨W, hW⟩ : ∃ W, w.alloc (.cells #[.int .i64 nd.kind, .string nd.name, .int .i64 nd.lo, .int .i64 nd.hi, .slice (some ⟨b, o, none⟩) m c] 47) = W := ⟨_, rfl⟩
 have hbW : Below w.heap.size w W := by rw [← hW]; exact (Below.refl _ _).alloc (Nat.le_refl _) _
 have d4 : W.cell? ⟨w.heap.size, 4, none⟩ = some (.slice (some ⟨b, o, none⟩) m c) := by rw [← hW]; exact box_cell 4 _ rfl
 have y1 := below_cell hbW (below_cell h.low x1)
 obtain ⟨z, hz⟩ : ∃ z, kidN J.l k j = z := ⟨_, rfl⟩
 rw [hz] at y1 hv hlt ⊢
 have HT := Lib.hid (landTake J w0 σ z A q d W (h.later hbW) (by omega) hv)
 have HG := Lib.hid (grown_any (o := J.bt) hbW)
 have hji : ((j : Nat) : Int) < ((m : Nat) : Int) := by omega
 clear h hnv hv hbW x1 hz hlt hkl
 go_enter Tryz.func39, Tryz.ntmps39
 go_wp2_with fail
 refine HT.out.mono ?_
 rintro e w1 ⟨rfl, h1, h2⟩
 have HX := Lib.hid (And.intro h1 (grown_tr HG.out h2))
 clear h1 h2
 go_wp2_with fail
 go_ret
 exact ⟨rfl, HX.out.1, HX.out.2⟩
end Go.Proofs.YtdbgaccnejffpaaGreat.Sat

namespace Go.Proofs.YtdbgaccnejffpaaGreat.Sat
open Go.RowKit Go.Proofs.YtdbgaccnejffpaaGreat.Ints Go.Proofs.YtdbgaccnejffpaaGreat.Mem Go.Proofs.YtdbgaccnejffpaaGreat.Src Go.Proofs.YtdbgaccnejffpaaGreat.Paths Go.Proofs.YtdbgaccnejffpaaGreat.Late Go.Proofs.YtdbgaccnejffpaaGreat.Trace

section
variable {J : Jd} {k i j p : Nat} {lo hi : Int} {s t : Nat → Nat} {x : List UInt8} (hn : (tmOf J.t).n = J.n) (hp : p < J.n)
include hn hp
theorem tv_true (e : foI J.l k = .z 1 x) : tvB J k p = true := tv_eq (by rw [e]; exact ⟨fun _ => rfl, fun _ => sem_true (by omega) x⟩)
omit hn hp in
theorem tv_false (e : foI J.l k = .z 2 x) : tvB J k p = false := tv_eq (by rw [e]; exact ⟨fun h => absurd h (sem_false x), fun h => by cases h⟩)
theorem tv_prop (e : foI J.l k = .z 3 x) : tvB J k p = holdsT J.t ((p : Nat) : Int) x := tv_eq (by
 rw [e]
 constructor
 · rintro h
   rcases (show p = p ∧ p < (tmOf J.t).n ∧ leafP (tmOf J.t) 3 x p from h).2.2 with e | e
   · exact absurd e (by decide)
   · exact e.2
 · intro h
   exact ⟨rfl, by omega, .inr ⟨rfl, h⟩⟩)
theorem tv_not (e : foI J.l k = .o 4 lo hi (foI J.l i)) : tvB J k p = !(tvB J i p) := tv_eq (by
 rw [e, sem_not (by omega), ← tv_iff, Bool.not_eq_true', Bool.not_eq_true])
theorem tv_both {K : Int} (hK : K = 5 ∨ K = 6 ∨ K = 7) (e : foI J.l k = .t K lo hi (foI J.l i) (foI J.l j)) : tvB J k p = bothB K (tvB J i p) (tvB J j p) := tv_eq (by
 rw [e]
 rcases hK with rfl | rfl | rfl
 · rw [sem_and (by omega), ← tv_iff, ← tv_iff]
   show _ ↔ (tvB J i p && tvB J j p) = true
   rw [Bool.and_eq_true]
 · rw [sem_or (by omega), ← tv_iff, ← tv_iff]
   show _ ↔ (tvB J i p || tvB J j p) = true
   rw [Bool.or_eq_true]
 · rw [sem_imp (by omega), ← tv_iff, ← tv_iff]
   show _ ↔ (!(tvB J i p) || tvB J j p) = true
   cases tvB J i p <;> simp)
theorem tv_prev (e : foI J.l k = .o 8 lo hi (foI J.l i)) : tvB J k p = prevB J lo hi (tvB J i) p := tv_eq (by
 rw [e, sem_prev (by omega), ← tv_iff]
 unfold prevB
 rw [Bool.and_eq_true, Bool.and_eq_true, decide_eq_true_eq]
 exact and_congr_right fun _ => ⟨fun h => ⟨h.2, h.1⟩, fun h => ⟨h.2, h.1⟩⟩)
theorem tv_next (e : foI J.l k = .o 9 lo hi (foI J.l i)) : tvB J k p = nextB J lo hi (tvB J i) p := tv_eq (by
 rw [e, sem_next (by omega), ← tv_iff, hn]
 unfold nextB
 rw [Bool.and_eq_true, Bool.and_eq_true, decide_eq_true_eq]
 exact and_congr_right fun _ => ⟨fun h => ⟨h.2, h.1⟩, fun h => ⟨h.2, h.1⟩⟩)
theorem tv_once (hP : PastS (tmOf J.t) lo hi p (s p) (t p)) (e : foI J.l k = .o 10 lo hi (foI J.l i)) : tvB J k p = someB (tvB J i) s t p := tv_eq (by
 rw [e, sem_once (by omega), someB_iff]
 obtain ⟨-, -, h3, -, h5⟩ := hP
 constructor
 · rintro ⟨q, q1, q2, q3⟩
   obtain ⟨q4, q5⟩ := (h5 q q1).2 q2
   exact ⟨q, q4, q5, (tv_iff J i q).2 q3⟩
 · rintro ⟨q, q1, q2, q3⟩
   exact ⟨q, by omega, (h5 q (by omega)).1 ⟨q1, q2⟩, (tv_iff J i q).1 q3⟩)
theorem tv_hist (hP : PastS (tmOf J.t) lo hi p (s p) (t p)) (e : foI J.l k = .o 11 lo hi (foI J.l i)) : tvB J k p = allB (tvB J i) s t p := tv_eq (by
 rw [e, sem_hist (by omega), allB_iff]
 obtain ⟨-, -, h3, -, h5⟩ := hP
 constructor
 · intro h q q1 q2
   exact (tv_iff J i q).2 (h q (by omega) ((h5 q (by omega)).1 ⟨q1, q2⟩))
 · intro h q q1 q2
   obtain ⟨q4, q5⟩ := (h5 q q1).2 q2
   exact (tv_iff J i q).1 (h q q4 q5))
theorem tv_some (hP : FutS (tmOf J.t) lo hi p (s p) (t p)) (e : foI J.l k = .o 12 lo hi (foI J.l i)) : tvB J k p = someB (tvB J i) s t p := tv_eq (by
 rw [e, sem_some (by omega), someB_iff]
 obtain ⟨h1, -, -, h3, -, h5⟩ := hP
 constructor
 · rintro ⟨q, q1, q0, q2, q3⟩
   obtain ⟨q4, q5⟩ := (h5 q q1 q0).2 q2
   exact ⟨q, q4, q5, (tv_iff J i q).2 q3⟩
 · rintro ⟨q, q1, q2, q3⟩
   exact ⟨q, by omega, by omega, (h5 q (by omega) (by omega)).1 ⟨q1, q2⟩, (tv_iff J i q).1 q3⟩)
theorem tv_all (hP : FutS (tmOf J.t) lo hi p (s p) (t p)) (e : foI J.l k = .o 13 lo hi (foI J.l i)) : tvB J k p = allB (tvB J i) s t p := tv_eq (by
 rw [e, sem_all (by omega), allB_iff]
 obtain ⟨h1, -, -, h3, -, h5⟩ := hP
 constructor
 · intro h q q1 q2
   exact (tv_iff J i q).2 (h q (by omega) (by omega) ((h5 q (by omega) (by omega)).1 ⟨q1, q2⟩))
 · intro h q q1 q0 q2
   obtain ⟨q4, q5⟩ := (h5 q q1 q0).2 q2
   exact (tv_iff J i q).1 (h q q4 q5))
theorem tv_since (hP : PastS (tmOf J.t) lo hi p (s p) (t p)) (e : foI J.l k = .t 14 lo hi (foI J.l i) (foI J.l j)) : tvB J k p = someB (tvB J j) (fun q => max (s q) (lastN (tvB J i) q)) t p := tv_eq (by
 rw [e, sem_since (by omega), someB_iff]
 obtain ⟨-, -, h3, -, h5⟩ := hP
 constructor
 · rintro ⟨q, q1, q2, q3, q6⟩
   obtain ⟨q4, q5⟩ := (h5 q q1).2 q2
   have := (lastN_iff (tvB J i) p q q1).2 (fun x x1 x2 => (tv_iff J i x).2 (q6 x x1 x2))
   exact ⟨q, by show max (s p) (lastN (tvB J i) p) ≤ q; omega, q5, (tv_iff J j q).2 q3⟩
 · rintro ⟨q, q1, q2, q3⟩
   have q1 : max (s p) (lastN (tvB J i) p) ≤ q := q1
   have hl := (lastN_iff (tvB J i) p q (by omega)).1 (by omega)
   exact ⟨q, by omega, (h5 q (by omega)).1 ⟨by omega, q2⟩, (tv_iff J j q).1 q3, fun x x1 x2 => (tv_iff J i x).1 (hl x x1 x2)⟩)
theorem tv_until (hP : FutS (tmOf J.t) lo hi p (s p) (t p)) (e : foI J.l k = .t 15 lo hi (foI J.l i) (foI J.l j)) : tvB J k p = someB (tvB J j) s (fun q => min (t q) (nextU (tvB J i) J.n (J.n - q))) p := tv_eq (by
 rw [e, sem_until (by omega), someB_iff]
 obtain ⟨h1, -, -, h3, -, h5⟩ := hP
 constructor
 · rintro ⟨q, q1, q0, q2, q3, q6⟩
   obtain ⟨q4, q5⟩ := (h5 q q1 q0).2 q2
   have := (nextU_iff (tvB J i) J.n (J.n - p) (by omega) q (by omega) (by omega)).2 (fun x x1 x2 => (tv_iff J i x).2 (q6 x (by omega) x2))
   exact ⟨q, q4, by show q < min (t p) (nextU (tvB J i) J.n (J.n - p)); omega, (tv_iff J j q).2 q3⟩
 · rintro ⟨q, q1, q2, q3⟩
   have q2 : q < min (t p) (nextU (tvB J i) J.n (J.n - p)) := q2
   have hl := (nextU_iff (tvB J i) J.n (J.n - p) (by omega) q (by omega) (by omega)).1 (by omega)
   exact ⟨q, by omega, by omega, (h5 q (by omega) (by omega)).1 ⟨q1, by omega⟩, (tv_iff J j q).1 q3, fun x x1 x2 => (tv_iff J i x).1 (hl x (by omega) x2)⟩)
omit hp in
theorem tv_back (hp : p < J.n) (hP : PastS (tmOf J.t) lo hi p (s p) (t p)) (e : foI J.l k = .o 16 lo hi (foI J.l i)) : tvB J k p = true ↔ ∃ q, s p ≤ q ∧ q < t p ∧ sem (tmOf J.t) (foI J.l i) q p := by
 rw [tv_iff, e, sem_back (by omega)]
 obtain ⟨-, -, h3, -, h5⟩ := hP
 constructor
 · rintro ⟨q, q1, q2, q3⟩
   obtain ⟨q4, q5⟩ := (h5 q q1).2 q2
   exact ⟨q, q4, q5, q3⟩
 · rintro ⟨q, q1, q2, q3⟩
   exact ⟨q, by omega, (h5 q (by omega)).1 ⟨q1, q2⟩, q3⟩
omit hp in
theorem tv_fore (hp : p < J.n) (hP : FutS (tmOf J.t) lo hi p (s p) (t p)) (e : foI J.l k = .o 17 lo hi (foI J.l i)) : tvB J k p = true ↔ ∃ q, s p ≤ q ∧ q < t p ∧ sem (tmOf J.t) (foI J.l i) p q := by
 rw [tv_iff, e, sem_fore (by omega)]
 obtain ⟨h1, -, -, h3, -, h5⟩ := hP
 constructor
 · rintro ⟨q, q1, q0, q2, q3⟩
   obtain ⟨q4, q5⟩ := (h5 q q1 q0).2 q2
   exact ⟨q, q4, q5, q3⟩
 · rintro ⟨q, q1, q2, q3⟩
   exact ⟨q, by omega, by omega, (h5 q (by omega) (by omega)).1 ⟨q1, q2⟩, q3⟩
theorem tv_test (e : foI J.l k = .o 19 lo hi (foI J.l i)) : tvB J k p = tvB J i p := tv_eq (by
 rw [e, sem_test, tv_iff]
 exact ⟨fun h => h.2.2, fun h => ⟨rfl, by omega, h⟩⟩)
end
end Go.Proofs.YtdbgaccnejffpaaGreat.Sat

namespace Go.Proofs.YtdbgaccnejffpaaGreat.Sat
open Go.Proofs.YtdbgaccnejffpaaGreat.Paths

end Go.Proofs.YtdbgaccnejffpaaGreat.Sat

namespace Go.Proofs.YtdbgaccnejffpaaGreat.Sat
open Go.RowKit Go.Proofs.YtdbgaccnejffpaaGreat.Ints Go.Proofs.YtdbgaccnejffpaaGreat.Tree Go.Proofs.YtdbgaccnejffpaaGreat.Paths

def reKind (g : Int → Int) (n : Nd) : Nd := { n with kind := g n.kind }
structure Twin (g : Int → Int) : Prop where
 zero : g 0 = 0
 ar : ∀ k, arity (g k) = arity k
 three : ∀ k, g k = 3 ↔ k = 3
 span : ∀ k, timed (g k) = timed k
 fit : ∀ k c, fits (g k) (g c) = fits k c
 kc : ∀ k, kidc (g k) = kidc k
section
variable {g : Int → Int} (hg : Twin g) (l : List Nd)
include hg
theorem twin_at (i : Nat) : (((l.map (reKind g))[i]?).map (·.kind)).getD 0 = g (((l[i]?).map (·.kind)).getD 0) := by
 rw [List.getElem?_map]
 cases l[i]? with
 | none => exact hg.zero.symm
 | some n => rfl
theorem twin_kids (n : Nd) : ∀ (ks : List Int) (ts : List Nat), okKids (l.map (reKind g)) (reKind g n) ks ts = okKids l n ks ts := by
 intro ks
 induction ks with
 | nil => intro ts; cases ts <;> rfl
 | cons k ks ih =>
   intro ts
   cases ts with
   | nil => rfl
   | cons t ts =>
     unfold okKids
     rw [ih]
     unfold okKid
     rw [twin_at hg]
     show (decide _ && fits (g n.kind) _ && _) = _
     rw [hg.fit]
theorem twin_step (st : List Nat) (i : Nat) : mayStep (l.map (reKind g)) st i = mayStep l st i := by
 unfold mayStep
 rw [List.getElem?_map]
 cases l[i]? with
 | none => rfl
 | some n =>
   show (if okShape (reKind g n) st.length = true ∧ okSpan (reKind g n) = true ∧ okKids (l.map (reKind g)) (reKind g n) n.kids _ = true then _ else _) = (if _ then _ else _)
   have e1 : okShape (reKind g n) st.length = okShape n st.length := by
     unfold okShape
     show (decide (0 ≤ arity (g n.kind)) && (decide ((n.kids.length : Int) = arity (g n.kind)) && (decide (arity (g n.kind) ≤ st.length) && ((decide (g n.kind ≠ 3) || _) && (decide (g n.kind = 3) || _))))) = _
     rw [hg.ar]
     have e3 : decide (g n.kind = 3) = decide (n.kind = 3) := decide_eq_decide.2 (hg.three _)
     have e4 : decide (g n.kind ≠ 3) = decide (n.kind ≠ 3) := decide_eq_decide.2 (not_congr (hg.three _))
     rw [e3, e4]
     rfl
   have e2 : okSpan (reKind g n) = okSpan n := by
     unfold okSpan
     show (if timed (g n.kind) then _ else _) = _
     rw [hg.span]
     rfl
   rw [e1, e2, twin_kids hg]
   rfl
theorem twin_upTo (i : Nat) : mayUpTo (l.map (reKind g)) i = mayUpTo l i := by
 induction i with
 | zero => rfl
 | succ i ih =>
   unfold mayUpTo
   rw [ih]
   congr 1
   funext st
   exact twin_step hg l st i
theorem twin_may : mayL (l.map (reKind g)) = mayL l := by
 unfold mayL
 rw [twin_upTo hg, List.length_map]
theorem twin_kind (i : Nat) : kindN (l.map (reKind g)) i = g (kindN l i) := by
 unfold kindN
 exact twin_at hg l i
omit hg in
theorem twin_kid (i q : Nat) : kidN (l.map (reKind g)) i q = kidN l i q := by
 unfold kidN
 rw [List.getElem?_map]
 cases l[i]? <;> rfl
def mapF (g : Int → Int) : Fo → Fo
 | .z k s => .z (g k) s
 | .o k lo hi a => .o (g k) lo hi (mapF g a)
 | .t k lo hi a b => .t (g k) lo hi (mapF g a) (mapF g b)
theorem twin_foL (f i : Nat) : foL (l.map (reKind g)) f i = mapF g (foL l f i) := by
 induction f generalizing i with
 | zero => exact congrArg (Fo.z · []) hg.zero.symm
 | succ f ih =>
   have en : nameN (l.map (reKind g)) i = nameN l i := by unfold nameN; rw [List.getElem?_map]; cases l[i]? <;> rfl
   have el : loN (l.map (reKind g)) i = loN l i := by unfold loN; rw [List.getElem?_map]; cases l[i]? <;> rfl
   have eh : hiN (l.map (reKind g)) i = hiN l i := by unfold hiN; rw [List.getElem?_map]; cases l[i]? <;> rfl
   unfold foL
   rw [twin_kind hg, hg.kc, twin_kid, twin_kid, en, el, eh, ih, ih]
   split
   · rfl
   split
   · rfl
   · rfl
theorem twin_fo : foOf (l.map (reKind g)) = mapF g (foOf l) := by
 unfold foOf foI
 rw [List.length_map]
 exact twin_foL hg l _ _
theorem twin_form : formL (l.map (reKind g)) = true ↔ mayL l = true ∧ formKind (g (lastKind l)) = true := by
 unfold formL
 rw [twin_may hg, Bool.and_eq_true]
 have : lastKind (l.map (reKind g)) = g (lastKind l) := by
   unfold lastKind
   rw [List.getLast?_map]
   cases l.getLast? with
   | none => exact hg.zero.symm
   | some n => rfl
 rw [this]
end
def pastG (past : Bool) (k : Int) : Int :=
 if past = true then (if k = 9 ∨ k = 15 ∨ k = 17 then k - 1 else if k = 12 ∨ k = 13 then k - 2 else k)
 else (if k = 8 ∨ k = 14 ∨ k = 16 then k + 1 else if k = 10 ∨ k = 11 then k + 2 else k)
theorem pastG_ways (past : Bool) (k : Int) : pastG past k = k ∨ (8 ≤ k ∧ k ≤ 13 ∧ k ≠ 11 ∧ k ≠ 10 ∧ 8 ≤ pastG past k ∧ pastG past k ≤ 13) ∨ (10 ≤ k ∧ k ≤ 13 ∧ 10 ≤ pastG past k ∧ pastG past k ≤ 13) ∨ ((k = 14 ∨ k = 15) ∧ (pastG past k = 14 ∨ pastG past k = 15)) ∨ ((k = 16 ∨ k = 17) ∧ (pastG past k = 16 ∨ pastG past k = 17)) := by
 unfold pastG
 split
 · split
   · omega
   split
   · omega
   · omega
 · split
   · omega
   split
   · omega
   · omega
def klass (k : Int) : Int := if 8 ≤ k ∧ k ≤ 13 then 8 else if k = 14 ∨ k = 15 then 14 else if k = 16 ∨ k = 17 then 16 else k
theorem klass_ways (k : Int) : (8 ≤ k ∧ k ≤ 13 ∧ klass k = 8) ∨ ((k = 14 ∨ k = 15) ∧ klass k = 14) ∨ ((k = 16 ∨ k = 17) ∧ klass k = 16) ∨ ((k < 8 ∨ 17 < k) ∧ klass k = k) := by
 unfold klass
 split
 · omega
 split
 · omega
 split
 · omega
 · omega
theorem klass_same {k k' : Int} (h : klass k = klass k') : arity k = arity k' ∧ (k = 3 ↔ k' = 3) ∧ timed k = timed k' ∧ (k ∈ regs ↔ k' ∈ regs) ∧ formKind k = formKind k' ∧ kidc k = kidc k' ∧ takesReg k = takesReg k' ∧ regKind k = regKind k' := by
 have hr : k ∈ regs ↔ k' ∈ regs := by
   simp only [regs, List.mem_cons, List.not_mem_nil, or_false]
   rcases klass_ways k with h1 | h1 | h1 | h1 <;> rcases klass_ways k' with h2 | h2 | h2 | h2 <;> omega
 have h0 : k ∈ none0 ↔ k' ∈ none0 := by
   simp only [none0, List.mem_cons, List.not_mem_nil, or_false]
   rcases klass_ways k with h1 | h1 | h1 | h1 <;> rcases klass_ways k' with h2 | h2 | h2 | h2 <;> omega
 have ht : k ∈ twos ↔ k' ∈ twos := by
   simp only [twos, List.mem_cons, List.not_mem_nil, or_false]
   rcases klass_ways k with h1 | h1 | h1 | h1 <;> rcases klass_ways k' with h2 | h2 | h2 | h2 <;> omega
 have ho : (k < 1 ∨ 22 < k) ↔ (k' < 1 ∨ 22 < k') := by
   rcases klass_ways k with h1 | h1 | h1 | h1 <;> rcases klass_ways k' with h2 | h2 | h2 | h2 <;> omega
 refine ⟨?_, ?_, ?_, hr, ?_, ?_, ?_, ?_⟩
 · unfold arity
   rw [if_iff h0 rfl (if_iff ht rfl (if_iff ho rfl rfl))]
 · rcases klass_ways k with h1 | h1 | h1 | h1 <;> rcases klass_ways k' with h2 | h2 | h2 | h2 <;> omega
 · unfold timed
   exact decide_eq_decide.2 (by rcases klass_ways k with h1 | h1 | h1 | h1 <;> rcases klass_ways k' with h2 | h2 | h2 | h2 <;> omega)
 · unfold formKind
   exact decide_eq_decide.2 (by rcases klass_ways k with h1 | h1 | h1 | h1 <;> rcases klass_ways k' with h2 | h2 | h2 | h2 <;> omega)
 · unfold kidc
   rw [if_iff h0 rfl (if_iff ht rfl rfl)]
 · unfold takesReg
   exact decide_eq_decide.2 hr
 · unfold regKind
   exact decide_eq_decide.2 (by rcases klass_ways k with h1 | h1 | h1 | h1 <;> rcases klass_ways k' with h2 | h2 | h2 | h2 <;> omega)
theorem twin_of {g : Int → Int} (h : ∀ k, klass (g k) = klass k) (h0 : g 0 = 0) : Twin g where
 zero := h0
 ar k := (klass_same (h k)).1
 three k := (klass_same (h k)).2.1
 span k := (klass_same (h k)).2.2.1
 fit k c := by
   unfold fits
   rw [if_iff (klass_same (h k)).2.2.2.1 rfl rfl, (klass_same (h c)).2.2.2.2.1]
 kc k := (klass_same (h k)).2.2.2.2.2.1
theorem past_klass (past : Bool) (k : Int) : klass (pastG past k) = klass k := by
 rcases klass_ways k with h1 | h1 | h1 | h1 <;> rcases klass_ways (pastG past k) with h2 | h2 | h2 | h2 <;> rcases pastG_ways past k with h | h | h | h | h <;> omega
theorem past_twin (past : Bool) : Twin (pastG past) := twin_of (past_klass past) (by cases past <;> rfl)
theorem past_free : ∀ f : Fo, free futK (mapF (pastG true) f) ∧ free pastK (mapF (pastG false) f) := by
 have hk : ∀ k, pastG true k ∉ futK ∧ pastG false k ∉ pastK := fun k => by
   simp only [futK, pastK, List.mem_cons, List.not_mem_nil, or_false]
   have e1 : pastG true k = (if k = 9 ∨ k = 15 ∨ k = 17 then k - 1 else if k = 12 ∨ k = 13 then k - 2 else k) := rfl
   have e2 : pastG false k = (if k = 8 ∨ k = 14 ∨ k = 16 then k + 1 else if k = 10 ∨ k = 11 then k + 2 else k) := rfl
   rw [e1, e2]
   constructor
   · split
     · omega
     split
     · omega
     · omega
   · split
     · omega
     split
     · omega
     · omega
 intro f
 induction f with
 | z k s => exact ⟨trivial, trivial⟩
 | o k lo hi a ih => exact ⟨⟨(hk k).1, ih.1⟩, ⟨(hk k).2, ih.2⟩⟩
 | t k lo hi a b iha ihb => exact ⟨⟨(hk k).1, iha.1, ihb.1⟩, ⟨(hk k).2, iha.2, ihb.2⟩⟩
/-! ### told backwards -/
theorem node_fields {l : List Nd} (h : mayL l = true) {i : Nat} {n : Nd} (hn : l[i]? = some n) : fieldsB n = true := by
 obtain ⟨st, -, -, -, h4, -⟩ := node_over h hn
 exact h4
theorem fo_node {l : List Nd} {i : Nat} {n : Nd} (hn : l[i]? = some n) : kindN l i = n.kind ∧ nameN l i = n.name.data.toList ∧ loN l i = n.lo ∧ hiN l i = n.hi := by
 refine ⟨kind_of hn, ?_, ?_, ?_⟩
 · unfold nameN; rw [hn]; rfl
 · unfold loN; rw [hn]; rfl
 · unfold hiN; rw [hn]; rfl
end Go.Proofs.YtdbgaccnejffpaaGreat.Sat
