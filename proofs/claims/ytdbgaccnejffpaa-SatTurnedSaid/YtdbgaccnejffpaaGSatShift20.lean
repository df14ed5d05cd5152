/-
  The landed judge in memory: its block, the row of its nodes' truth; take, kid (stage 15). By an AI agent.
  What the landed helpers reckon is the node's truth, kind by kind (stage 15). By an AI agent.
  Truth, told backwards (stage 15). By an AI agent.
-/
import Derived.Test.YtdbgaccnejffpaaGSatShift19
import Derived.Test.YtdbgaccnejffpaaGSatShift3
namespace Go.Proofs.Ytdbgaccnejffpaa.Sat
open Go.RowKit Go.Proofs.Ytdbgaccnejffpaa.Ints Go.Proofs.Ytdbgaccnejffpaa.Mem Go.Proofs.Ytdbgaccnejffpaa.Src Go.Proofs.Ytdbgaccnejffpaa.Paths Go.Proofs.Ytdbgaccnejffpaa.Late Go.Proofs.Ytdbgaccnejffpaa.Trace
noncomputable def tvB (J : Jd) (i p : Nat) : Bool := @decide (sem (tmOf J.t) (foI J.l i) p p) (Classical.propDecidable _)
theorem tv_iff (J : Jd) (i p : Nat) : tvB J i p = true ↔ sem (tmOf J.t) (foI J.l i) p p := @decide_eq_true_iff _ (Classical.propDecidable _)
theorem tv_eq {J : Jd} {i p : Nat} {b : Bool} (h : sem (tmOf J.t) (foI J.l i) p p ↔ b = true) : tvB J i p = b := by
 rw [Bool.eq_iff_iff, tv_iff]
 exact h
structure JS (J : Jd) (w0 : World) (σ : List Value) (W : World) : Prop where
 tr : TrOk Any w0 J.NA J.nn J.nc J.EA J.n J.ec J.t
 nodes : Tree.Nodes Tree.Any w0 J.LA J.l
 lcap : J.l.length ≤ J.lc ∧ J.lc ≤ maxLen
 mt : mayT J.t = true
 ml : Tree.mayL J.l = true
 hn : J.n ≤ 64
 hl : J.l.length ≤ 1000
 low : Below w0.heap.size w0 W
 blk : Blk W J.gj [.slice J.NA J.nn J.nc, .slice J.EA J.n J.ec, .slice J.LA J.l.length J.lc, .slice (some ⟨J.bt, 0, none⟩) J.l.length J.l.length]
 row : W.ownsRow w0.heap.size 35 1 (.slice (some ⟨J.bt, 0, none⟩) J.l.length J.l.length) J.l.length σ
 hg : w0.heap.size ≤ J.gj
 ne : J.gj ≠ J.bt
section
variable {J : Jd} {w0 W W' : World} {σ : List Value}
theorem JS.jw (h : JS J w0 σ W) : JW J W :=
 ⟨h.blk.cell 0 rfl, h.blk.cell 1 rfl, h.blk.cell 2 rfl, h.blk.cell 3 rfl, h.tr.below h.low, h.nodes.below h.low, h.lcap, h.mt, h.ml, h.hn, h.hl⟩
theorem JS.len (h : JS J w0 σ W) : σ.length = J.l.length := by have := h.row.1; rwa [Nat.mul_one] at this
theorem JS.bt0 (h : JS J w0 σ W) : w0.heap.size ≤ J.bt ∧ J.bt < W.heap.size := World.ownsRow.lt h.row J.bt rfl
theorem JS.later (h : JS J w0 σ W) (hb : Below W.heap.size W W') : JS J w0 σ W' :=
 ⟨h.tr, h.nodes, h.lcap, h.mt, h.ml, h.hn, h.hl, h.low.trans (hb.mono h.low.size), h.blk.later hb, below_row h.row hb, h.hg, h.ne⟩
theorem JS.kept {o : Nat} (h : JS J w0 σ W) (hg : W.grownBy W' (some o)) (h0 : w0.heap.size ≤ o) (h1 : J.gj ≠ o) (h2 : J.bt ≠ o) : JS J w0 σ W' :=
 ⟨h.tr, h.nodes, h.lcap, h.mt, h.ml, h.hn, h.hl, h.low.trans ⟨hg.os, hg.tape, hg.output, hg.size, fun k hk => hg.block k (by have := h.low.size; omega) (fun e => by injection e; omega)⟩, h.blk.grown hg (fun e => h1 (by injection e)), World.ownsRow.kept h.row hg (.inr (fun e => h2 (by injection e))), h.hg, h.ne⟩
theorem JS.put (h : JS J w0 σ W) (i : Nat) (v : Value) : JS J w0 (σ.set i v) (W.setCell ⟨J.bt, i, none⟩ v) :=
 ⟨h.tr, h.nodes, h.lcap, h.mt, h.ml, h.hn, h.hl, h.low.setCell (p := ⟨J.bt, i, none⟩) h.bt0.1 v, h.blk.other _ _ h.ne, own_put h.row v, h.hg, h.ne⟩
theorem JS.at (h : JS J w0 σ W) {i : Nat} {v : Value} (hv : σ[i]? = some v) : W.cell? ⟨J.bt, i, none⟩ = some v := by
 have := World.ownsRow.cells h.row (g := J.bt) rfl i v hv
 rwa [Addr.add_lit, Nat.zero_add] at this
end
theorem grown_any {w w' : World} {o : Nat} (h : Below w.heap.size w w') : w.grownBy w' (some o) := ⟨h.os, h.tape, h.output, h.size, fun k hk _ => h.block k hk⟩
theorem cell_grown {w w' : World} {b k o : Nat} {u : Value} (hg : w.grownBy w' (some o)) (h : w.cell? ⟨b, k, none⟩ = some u) (hne : b ≠ o) : w'.cell? ⟨b, k, none⟩ = some u := hg.cell h (fun e => hne (by injection e))
def Tv (J : Jd) (W : World) (i : Nat) (v : Value) : Prop := ∃ b, v = .slice (some ⟨b, 0, none⟩) J.n J.n ∧ b ≠ J.bt ∧ b < W.heap.size ∧ RB W b J.n (tvB J i) ∧ OB W J.gj b J.n (tvB J i)
theorem Tv.grown {J : Jd} {W W' : World} {i : Nat} {v : Value} (h : Tv J W i v) (hg : W.grownBy W' (some J.bt)) : Tv J W' i v := by
 obtain ⟨b, e, hne, hlt, hr, ho⟩ := h
 exact ⟨b, e, hne, Nat.lt_of_lt_of_le hlt hg.size, hr.grown hg hne, ho.same (hg.block b hlt (fun e => hne (by injection e)))⟩
def Live (J : Jd) (k : Nat) (σ : List Value) (W : World) : Prop := ∀ i, i < k → ¬ dead J.l k i → (Tree.formKind (kindN J.l i) = true ∨ kindN J.l i = 19) → ∃ v, σ[i]? = some v ∧ Tv J W i v
theorem Live.grown {J : Jd} {k : Nat} {σ : List Value} {W W' : World} (h : Live J k σ W) (hg : W.grownBy W' (some J.bt)) : Live J k σ W' := fun i h1 h2 h3 => by
 obtain ⟨v, e, ht⟩ := h i h1 h2 h3
 exact ⟨v, e, ht.grown hg⟩
structure Nv (J : Jd) (w0 : World) (k : Nat) (nd : Tree.Nd) (K : Option Addr) (m c : Nat) : Prop where
 hk : J.l[k]? = some nd
 len : m = Tree.kidc nd.kind
 cap : m ≤ c
 kids : ∀ j, j < m → ∃ b o, K = some ⟨b, o, none⟩ ∧ w0.cell? ⟨b, o + j, none⟩ = some (.int .i64 ((kidN J.l k j : Nat) : Int)) ∧ kidN J.l k j < k
theorem JS.node {J : Jd} {w0 W : World} {σ : List Value} (h : JS J w0 σ W) {k : Nat} (hk : k < J.l.length) : ∃ (b off : Nat) (nd : Tree.Nd) (K : Option Addr) (m c : Nat), J.LA = some ⟨b, off, none⟩ ∧ Nv J w0 k nd K m c ∧ c ≤ maxLen ∧ nd.name.size ≤ maxLen ∧
  w0.cell? ⟨b, off + k * 5, none⟩ = some (.int .i64 nd.kind) ∧ w0.cell? ⟨b, off + k * 5 + 1, none⟩ = some (.string nd.name) ∧ w0.cell? ⟨b, off + k * 5 + 2, none⟩ = some (.int .i64 nd.lo) ∧ w0.cell? ⟨b, off + k * 5 + 3, none⟩ = some (.int .i64 nd.hi) ∧ w0.cell? ⟨b, off + k * 5 + 4, none⟩ = some (.slice K m c) := by
 obtain ⟨b, off, e, hns⟩ := h.nodes (by omega)
 obtain ⟨nd, hnd⟩ : ∃ nd, J.l[k]? = some nd := ⟨_, List.getElem?_eq_getElem hk⟩
 obtain ⟨x0, x1, x2, x3, s0, s2, s3, s1, K, cK, x4, xr, hc, hcm, -⟩ := hns k nd hnd
 rw [Nat.mul_comm 5 k] at x0 x1 x2 x3 x4
 obtain ⟨st, hO, hz, hl, -, -⟩ := node_over h.ml hnd
 have hlen : nd.kids.length = Tree.kidc nd.kind := by rw [hz]; unfold Tree.zints; rw [List.length_map, hl]
 refine ⟨b, off, nd, K, nd.kids.length, cK, e, ⟨hnd, hlen, hc, fun j hj => ?_⟩, hcm, s1, x0, x1, x2, x3, x4⟩
 obtain ⟨Kb, ko, rfl, hcs⟩ := Rd.cell xr (by omega)
 have hkd := kind_of hnd
 have hlt : kidN J.l k j < k := by
  rcases kidc_ways nd.kind with e | e | e
  ·omega
  ·obtain rfl : j = 0 := by omega
   exact kidN_one h.ml hk (by rw [hkd]; exact e)
  ·obtain ⟨a1, a2⟩ := kidN_two h.ml hk (by rw [hkd]; exact e)
   obtain rfl | rfl : j = 0 ∨ j = 1 := by omega
   ·exact a1
   ·exact a2
 refine ⟨Kb, ko, rfl, ?_, hlt⟩
 have h2 := hcs j hj
 have hz0 : 0 ≤ nd.kids[j]?.getD 0 := by
  rw [hz]
  unfold Tree.zints
  rw [List.getElem?_map]
  cases st[j]? with
  | none => exact Int.le_refl _
  | some z => exact Int.natCast_nonneg z
 have hkN : ((kidN J.l k j : Nat) : Int) = nd.kids[j]?.getD 0 := by
  unfold kidN
  rw [hnd]
  show (((nd.kids[j]?.getD 0).toNat : Nat) : Int) = _
  omega
 rw [hkN]
 exact h2
set_option maxHeartbeats 8000000 in
set_option maxRecDepth 100000 in
theorem landTake (J : Jd) (w0 : World) (σ : List Value) (i : Nat) (A : Option Addr) (q c : Nat) (w : World) (h : JS J w0 σ w) (hi : i < J.l.length) (hv : σ[i]? = some (.slice A q c)) :
  Calls Try.prog 18 #[.pointer (some ⟨J.gj, 0, none⟩), .int .i64 ((i : Nat) : Int)] w fun e w' => e = .returned (.slice A q c) ∧ JS J w0 (σ.set i (.slice none 0 0)) w' ∧ w.grownBy w' (some J.bt) := by
 have HP := Lib.hid (h.put i (.slice none 0 0))
 have HG := Lib.hid (grown_cell w ⟨J.bt, i, none⟩ (.slice none 0 0))
 have c3 := h.blk.cell 3 rfl
 have x1 := h.at hv
 have f1 := own_fz h.row i
 have hii : ((i : Nat) : Int) < ((J.l.length : Nat) : Int) := by omega
 obtain ⟨g, hg⟩ : ∃ g, J.gj = g := ⟨_, rfl⟩
 obtain ⟨t, ht⟩ : ∃ t, J.bt = t := ⟨_, rfl⟩
 obtain ⟨n, hn⟩ : ∃ n, J.l.length = n := ⟨_, rfl⟩
 rw [hg] at c3 ⊢
 rw [ht] at c3 x1 f1 HP HG ⊢
 rw [hn] at c3 hii
 clear h hv hi hg hn ht
 go_enter Try.func18, Try.ntmps18
 go_wp2_with fail
 go_ret
 exact ⟨rfl, HP.out, HG.out⟩
set_option maxHeartbeats 8000000 in
set_option maxRecDepth 100000 in
theorem landKid (J : Jd) (w0 : World) (σ : List Value) (k j : Nat) (nd : Tree.Nd) (K : Option Addr) (m c : Nat) (A : Option Addr) (q d : Nat) (w : World) (h : JS J w0 σ w) (hnv : Nv J w0 k nd K m c) (hj : j < m) (hv : σ[kidN J.l k j]? = some (.slice A q d)) :
  Calls Try.prog 31 #[.pointer (some ⟨J.gj, 0, none⟩), Tree.ndV nd K m c, .int .i64 ((j : Nat) : Int)] w fun e w' => e = .returned (.slice A q d) ∧ JS J w0 (σ.set (kidN J.l k j) (.slice none 0 0)) w' ∧ w.grownBy w' (some J.bt) := by
 obtain ⟨b, o, rfl, x1, hlt⟩ := hnv.kids j hj
 have hkl := (List.getElem?_eq_some_iff.1 hnv.hk).1
 obtain ⟨W, hW⟩ : ∃ W, w.alloc (.cells #[.int .i64 nd.kind, .string nd.name, .int .i64 nd.lo, .int .i64 nd.hi, .slice (some ⟨b, o, none⟩) m c] 52) = W := ⟨_, rfl⟩
 have hbW : Below w.heap.size w W := by rw [← hW]; exact (Below.refl _ _).alloc (Nat.le_refl _) _
 have d4 : W.cell? ⟨w.heap.size, 4, none⟩ = some (.slice (some ⟨b, o, none⟩) m c) := by rw [← hW]; exact box_cell 4 _ rfl
 have y1 := below_cell hbW (below_cell h.low x1)
 obtain ⟨z, hz⟩ : ∃ z, kidN J.l k j = z := ⟨_, rfl⟩
 rw [hz] at y1 hv hlt ⊢
 have HT := Lib.hid (landTake J w0 σ z A q d W (h.later hbW) (by omega) hv)
 have HG := Lib.hid (grown_any (o := J.bt) hbW)
 have hji : ((j : Nat) : Int) < ((m : Nat) : Int) := by omega
 clear h hnv hv hbW x1 hz hlt hkl
 go_enter Try.func31, Try.ntmps31
 go_wp2_with fail
 refine HT.out.mono ?_
 rintro e w1 ⟨rfl, h1, h2⟩
 have HX := Lib.hid (And.intro h1 (grown_tr HG.out h2))
 clear h1 h2
 go_wp2_with fail
 go_ret
 exact ⟨rfl, HX.out.1, HX.out.2⟩
end Go.Proofs.Ytdbgaccnejffpaa.Sat

namespace Go.Proofs.Ytdbgaccnejffpaa.Sat
open Go.RowKit Go.Proofs.Ytdbgaccnejffpaa.Ints Go.Proofs.Ytdbgaccnejffpaa.Mem Go.Proofs.Ytdbgaccnejffpaa.Src Go.Proofs.Ytdbgaccnejffpaa.Paths Go.Proofs.Ytdbgaccnejffpaa.Late Go.Proofs.Ytdbgaccnejffpaa.Trace
section
variable {J : Jd} {k i j p : Nat} {lo hi : Int} {s t : Nat → Nat} {x : List UInt8} (hn : (tmOf J.t).n = J.n) (hp : p < J.n)
include hn hp
theorem tv_true (e : foI J.l k = .z 1 x) : tvB J k p = true := tv_eq (by rw [e]; exact ⟨fun _ => rfl, fun _ => sem_true (by omega) x⟩)
omit hn hp in
theorem tv_false (e : foI J.l k = .z 2 x) : tvB J k p = false := tv_eq (by rw [e]; exact ⟨fun h => absurd h (sem_false x), fun h => by cases h⟩)
theorem tv_prop (e : foI J.l k = .z 3 x) : tvB J k p = holdsT J.t ((p : Nat) : Int) x := tv_eq (by
 rw [e]
 constructor
 ·rintro h
  rcases (show p = p ∧ p < (tmOf J.t).n ∧ leafP (tmOf J.t) 3 x p from h).2.2 with e | e
  ·exact absurd e (by decide)
  ·exact e.2
 ·intro h
  exact ⟨rfl, by omega, .inr ⟨rfl, h⟩⟩)
theorem tv_not (e : foI J.l k = .o 4 lo hi (foI J.l i)) : tvB J k p = !(tvB J i p) := tv_eq (by
 rw [e, sem_not (by omega), ← tv_iff, Bool.not_eq_true', Bool.not_eq_true])
theorem tv_both {K : Int} (hK : K = 5 ∨ K = 6 ∨ K = 7) (e : foI J.l k = .t K lo hi (foI J.l i) (foI J.l j)) : tvB J k p = bothB K (tvB J i p) (tvB J j p) := tv_eq (by
 rw [e]
 rcases hK with rfl | rfl | rfl
 ·rw [sem_and (by omega), ← tv_iff, ← tv_iff]
  show _ ↔ (tvB J i p && tvB J j p) = true
  rw [Bool.and_eq_true]
 ·rw [sem_or (by omega), ← tv_iff, ← tv_iff]
  show _ ↔ (tvB J i p || tvB J j p) = true
  rw [Bool.or_eq_true]
 ·rw [sem_imp (by omega), ← tv_iff, ← tv_iff]
  show _ ↔ (!(tvB J i p) || tvB J j p) = true
  cases tvB J i p <;> simp)
theorem tv_prev (e : foI J.l k = .o 8 lo hi (foI J.l i)) : tvB J k p = prevB J lo hi (tvB J i) p := tv_eq (by
 rw [e, sem_prev (by omega), ← tv_iff]
 unfold prevB
 rw [Bool.and_eq_true, Bool.and_eq_true, decide_eq_true_eq]
 exact and_congr_right fun _ => ⟨fun h => ⟨h.2, h.1⟩, fun h => ⟨h.2, h.1⟩⟩)
theorem tv_next (e : foI J.l k = .o 9 lo hi (foI J.l i)) : tvB J k p = nextB J lo hi (tvB J i) p := tv_eq (by
 rw [e, sem_next (by omega), ← tv_iff, hn]
 unfold nextB
 rw [Bool.and_eq_true, Bool.and_eq_true, decide_eq_true_eq]
 exact and_congr_right fun _ => ⟨fun h => ⟨h.2, h.1⟩, fun h => ⟨h.2, h.1⟩⟩)
theorem tv_once (hP : PastS (tmOf J.t) lo hi p (s p) (t p)) (e : foI J.l k = .o 10 lo hi (foI J.l i)) : tvB J k p = someB (tvB J i) s t p := tv_eq (by
 rw [e, sem_once (by omega), someB_iff]
 obtain ⟨-, -, h3, -, h5⟩ := hP
 constructor
 ·rintro ⟨q, q1, q2, q3⟩
  obtain ⟨q4, q5⟩ := (h5 q q1).2 q2
  exact ⟨q, q4, q5, (tv_iff J i q).2 q3⟩
 ·rintro ⟨q, q1, q2, q3⟩
  exact ⟨q, by omega, (h5 q (by omega)).1 ⟨q1, q2⟩, (tv_iff J i q).1 q3⟩)
theorem tv_hist (hP : PastS (tmOf J.t) lo hi p (s p) (t p)) (e : foI J.l k = .o 11 lo hi (foI J.l i)) : tvB J k p = allB (tvB J i) s t p := tv_eq (by
 rw [e, sem_hist (by omega), allB_iff]
 obtain ⟨-, -, h3, -, h5⟩ := hP
 constructor
 ·intro h q q1 q2
  exact (tv_iff J i q).2 (h q (by omega) ((h5 q (by omega)).1 ⟨q1, q2⟩))
 ·intro h q q1 q2
  obtain ⟨q4, q5⟩ := (h5 q q1).2 q2
  exact (tv_iff J i q).1 (h q q4 q5))
theorem tv_some (hP : FutS (tmOf J.t) lo hi p (s p) (t p)) (e : foI J.l k = .o 12 lo hi (foI J.l i)) : tvB J k p = someB (tvB J i) s t p := tv_eq (by
 rw [e, sem_some (by omega), someB_iff]
 obtain ⟨h1, -, -, h3, -, h5⟩ := hP
 constructor
 ·rintro ⟨q, q1, q0, q2, q3⟩
  obtain ⟨q4, q5⟩ := (h5 q q1 q0).2 q2
  exact ⟨q, q4, q5, (tv_iff J i q).2 q3⟩
 ·rintro ⟨q, q1, q2, q3⟩
  exact ⟨q, by omega, by omega, (h5 q (by omega) (by omega)).1 ⟨q1, q2⟩, (tv_iff J i q).1 q3⟩)
theorem tv_all (hP : FutS (tmOf J.t) lo hi p (s p) (t p)) (e : foI J.l k = .o 13 lo hi (foI J.l i)) : tvB J k p = allB (tvB J i) s t p := tv_eq (by
 rw [e, sem_all (by omega), allB_iff]
 obtain ⟨h1, -, -, h3, -, h5⟩ := hP
 constructor
 ·intro h q q1 q2
  exact (tv_iff J i q).2 (h q (by omega) (by omega) ((h5 q (by omega) (by omega)).1 ⟨q1, q2⟩))
 ·intro h q q1 q0 q2
  obtain ⟨q4, q5⟩ := (h5 q q1 q0).2 q2
  exact (tv_iff J i q).1 (h q q4 q5))
theorem tv_since (hP : PastS (tmOf J.t) lo hi p (s p) (t p)) (e : foI J.l k = .t 14 lo hi (foI J.l i) (foI J.l j)) : tvB J k p = someB (tvB J j) (fun q => max (s q) (lastN (tvB J i) q)) t p := tv_eq (by
 rw [e, sem_since (by omega), someB_iff]
 obtain ⟨-, -, h3, -, h5⟩ := hP
 constructor
 ·rintro ⟨q, q1, q2, q3, q6⟩
  obtain ⟨q4, q5⟩ := (h5 q q1).2 q2
  have := (lastN_iff (tvB J i) p q q1).2 (fun x x1 x2 => (tv_iff J i x).2 (q6 x x1 x2))
  exact ⟨q, by show max (s p) (lastN (tvB J i) p) ≤ q; omega, q5, (tv_iff J j q).2 q3⟩
 ·rintro ⟨q, q1, q2, q3⟩
  have q1 : max (s p) (lastN (tvB J i) p) ≤ q := q1
  have hl := (lastN_iff (tvB J i) p q (by omega)).1 (by omega)
  exact ⟨q, by omega, (h5 q (by omega)).1 ⟨by omega, q2⟩, (tv_iff J j q).1 q3, fun x x1 x2 => (tv_iff J i x).1 (hl x x1 x2)⟩)
theorem tv_until (hP : FutS (tmOf J.t) lo hi p (s p) (t p)) (e : foI J.l k = .t 15 lo hi (foI J.l i) (foI J.l j)) : tvB J k p = someB (tvB J j) s (fun q => min (t q) (nextU (tvB J i) J.n (J.n - q))) p := tv_eq (by
 rw [e, sem_until (by omega), someB_iff]
 obtain ⟨h1, -, -, h3, -, h5⟩ := hP
 constructor
 ·rintro ⟨q, q1, q0, q2, q3, q6⟩
  obtain ⟨q4, q5⟩ := (h5 q q1 q0).2 q2
  have := (nextU_iff (tvB J i) J.n (J.n - p) (by omega) q (by omega) (by omega)).2 (fun x x1 x2 => (tv_iff J i x).2 (q6 x (by omega) x2))
  exact ⟨q, q4, by show q < min (t p) (nextU (tvB J i) J.n (J.n - p)); omega, (tv_iff J j q).2 q3⟩
 ·rintro ⟨q, q1, q2, q3⟩
  have q2 : q < min (t p) (nextU (tvB J i) J.n (J.n - p)) := q2
  have hl := (nextU_iff (tvB J i) J.n (J.n - p) (by omega) q (by omega) (by omega)).1 (by omega)
  exact ⟨q, by omega, by omega, (h5 q (by omega) (by omega)).1 ⟨q1, by omega⟩, (tv_iff J j q).1 q3, fun x x1 x2 => (tv_iff J i x).1 (hl x (by omega) x2)⟩)
omit hp in
theorem tv_back (hp : p < J.n) (hP : PastS (tmOf J.t) lo hi p (s p) (t p)) (e : foI J.l k = .o 16 lo hi (foI J.l i)) : tvB J k p = true ↔ ∃ q, s p ≤ q ∧ q < t p ∧ sem (tmOf J.t) (foI J.l i) q p := by
 rw [tv_iff, e, sem_back (by omega)]
 obtain ⟨-, -, h3, -, h5⟩ := hP
 constructor
 ·rintro ⟨q, q1, q2, q3⟩
  obtain ⟨q4, q5⟩ := (h5 q q1).2 q2
  exact ⟨q, q4, q5, q3⟩
 ·rintro ⟨q, q1, q2, q3⟩
  exact ⟨q, by omega, (h5 q (by omega)).1 ⟨q1, q2⟩, q3⟩
omit hp in
theorem tv_fore (hp : p < J.n) (hP : FutS (tmOf J.t) lo hi p (s p) (t p)) (e : foI J.l k = .o 17 lo hi (foI J.l i)) : tvB J k p = true ↔ ∃ q, s p ≤ q ∧ q < t p ∧ sem (tmOf J.t) (foI J.l i) p q := by
 rw [tv_iff, e, sem_fore (by omega)]
 obtain ⟨h1, -, -, h3, -, h5⟩ := hP
 constructor
 ·rintro ⟨q, q1, q0, q2, q3⟩
  obtain ⟨q4, q5⟩ := (h5 q q1 q0).2 q2
  exact ⟨q, q4, q5, q3⟩
 ·rintro ⟨q, q1, q2, q3⟩
  exact ⟨q, by omega, by omega, (h5 q (by omega) (by omega)).1 ⟨q1, q2⟩, q3⟩
theorem tv_test (e : foI J.l k = .o 19 lo hi (foI J.l i)) : tvB J k p = tvB J i p := tv_eq (by
 rw [e, sem_test, tv_iff]
 exact ⟨fun h => h.2.2, fun h => ⟨rfl, by omega, h⟩⟩)
end
end Go.Proofs.Ytdbgaccnejffpaa.Sat

namespace Go.Proofs.Ytdbgaccnejffpaa.Sat
open Go.Proofs.Ytdbgaccnejffpaa.Paths
theorem chain_turn1 {R R' : Nat → Nat → Prop} {n : Nat} (hO : On n R') (h : ∀ i j, i < n → j < n → R' i j → R (n - 1 - j) (n - 1 - i)) {i j : Nat} (hc : Chain R' i j) : Chain R (n - 1 - j) (n - 1 - i) := by
 obtain ⟨c, hc⟩ := hc
 induction c generalizing i with
 | zero =>
  obtain rfl : i = j := hc
  exact chain_refl _ _
 | succ c ih =>
  rcases hc with rfl | ⟨k, h1, h2⟩
  ·exact chain_refl _ _
  ·obtain ⟨o1, o2⟩ := hO i k h1
   exact chain_trans (ih h2) (chain_one (h i k o1 o2 h1))
theorem chain_turn {R R' : Nat → Nat → Prop} {n : Nat} (hO : On n R) (hO' : On n R') (h : ∀ i j, i < n → j < n → (R' i j ↔ R (n - 1 - j) (n - 1 - i))) {i j : Nat} (hi : i < n) (hj : j < n) : Chain R' i j ↔ Chain R (n - 1 - j) (n - 1 - i) := by
 refine ⟨chain_turn1 hO' (fun i j hi hj => (h i j hi hj).1), fun hc => ?_⟩
 have h2 := chain_turn1 (R := R') hO (fun i j hi hj hr => (h _ _ (by omega) (by omega)).2 (by rw [show n - 1 - (n - 1 - i) = i by omega, show n - 1 - (n - 1 - j) = j by omega]; exact hr)) hc
 rwa [show n - 1 - (n - 1 - i) = i by omega, show n - 1 - (n - 1 - j) = j by omega] at h2
theorem ex_turn {n : Nat} {P Q : Nat → Prop} (h1 : ∀ q, P q → Q (n - 1 - q)) (h2 : ∀ q, Q q → q < n ∧ P (n - 1 - q)) : (∃ q, P q) ↔ ∃ q, Q q :=
 ⟨fun ⟨q, h⟩ => ⟨_, h1 q h⟩, fun ⟨q, h⟩ => ⟨_, (h2 q h).2⟩⟩
def turnK (k : Int) : Int := if k = 8 ∨ k = 14 ∨ k = 16 then k + 1 else if k = 9 ∨ k = 15 ∨ k = 17 then k - 1 else if k = 10 ∨ k = 11 then k + 2 else if k = 12 ∨ k = 13 then k - 2 else k
def turnF : Fo → Fo
 | .z k s => .z k s
 | .o k lo hi a => .o (turnK k) lo hi (turnF a)
 | .t k lo hi a b => if k = 21 then .t k lo hi (turnF b) (turnF a) else .t (turnK k) lo hi (turnF a) (turnF b)
theorem turnK_ways (k : Int) : (k = 8 ∧ turnK k = 9) ∨ (k = 9 ∧ turnK k = 8) ∨ (k = 10 ∧ turnK k = 12) ∨ (k = 11 ∧ turnK k = 13) ∨ (k = 12 ∧ turnK k = 10) ∨ (k = 13 ∧ turnK k = 11) ∨ (k = 14 ∧ turnK k = 15) ∨ (k = 15 ∧ turnK k = 14) ∨ (k = 16 ∧ turnK k = 17) ∨ (k = 17 ∧ turnK k = 16) ∨
  (turnK k = k ∧ k ≠ 8 ∧ k ≠ 9 ∧ k ≠ 10 ∧ k ≠ 11 ∧ k ≠ 12 ∧ k ≠ 13 ∧ k ≠ 14 ∧ k ≠ 15 ∧ k ≠ 16 ∧ k ≠ 17) := by
 by_cases h8 : k = 8
 ·subst h8; exact .inl ⟨rfl, rfl⟩
 by_cases h9 : k = 9
 ·subst h9; exact .inr (.inl ⟨rfl, rfl⟩)
 by_cases h10 : k = 10
 ·subst h10; exact .inr (.inr (.inl ⟨rfl, rfl⟩))
 by_cases h11 : k = 11
 ·subst h11; exact .inr (.inr (.inr (.inl ⟨rfl, rfl⟩)))
 by_cases h12 : k = 12
 ·subst h12; exact .inr (.inr (.inr (.inr (.inl ⟨rfl, rfl⟩))))
 by_cases h13 : k = 13
 ·subst h13; exact .inr (.inr (.inr (.inr (.inr (.inl ⟨rfl, rfl⟩)))))
 by_cases h14 : k = 14
 ·subst h14; exact .inr (.inr (.inr (.inr (.inr (.inr (.inl ⟨rfl, rfl⟩))))))
 by_cases h15 : k = 15
 ·subst h15; exact .inr (.inr (.inr (.inr (.inr (.inr (.inr (.inl ⟨rfl, rfl⟩)))))))
 by_cases h16 : k = 16
 ·subst h16; exact .inr (.inr (.inr (.inr (.inr (.inr (.inr (.inr (.inl ⟨rfl, rfl⟩))))))))
 by_cases h17 : k = 17
 ·subst h17; exact .inr (.inr (.inr (.inr (.inr (.inr (.inr (.inr (.inr (.inl ⟨rfl, rfl⟩)))))))))
 refine .inr (.inr (.inr (.inr (.inr (.inr (.inr (.inr (.inr (.inr ⟨?_, h8, h9, h10, h11, h12, h13, h14, h15, h16, h17⟩)))))))))
 unfold turnK
 rw [if_neg (fun e => by rcases e with e | e | e <;> contradiction), if_neg (fun e => by rcases e with e | e | e <;> contradiction), if_neg (fun e => by rcases e with e | e <;> contradiction), if_neg (fun e => by rcases e with e | e <;> contradiction)]
theorem oneP_else {T : Tm} {k lo hi : Int} {A : Nat → Nat → Prop} {i : Nat} (h : k ≠ 8 ∧ k ≠ 9 ∧ k ≠ 10 ∧ k ≠ 11 ∧ k ≠ 12 ∧ k ≠ 13 ∧ k ≠ 14 ∧ k ≠ 15 ∧ k ≠ 16 ∧ k ≠ 17) : oneP T k lo hi A i = if k = 4 then ¬ A i i else A i i := by
 obtain ⟨a8, a9, a10, a11, a12, a13, -, -, a16, a17⟩ := h
 unfold oneP
 rw [if_neg a8, if_neg a9, if_neg a10, if_neg a11, if_neg a12, if_neg a13, if_neg a16, if_neg a17]
theorem twoP_else {T : Tm} {k lo hi : Int} {A B : Nat → Nat → Prop} {i : Nat} (h : k ≠ 14 ∧ k ≠ 15) : twoP T k lo hi A B i = if k = 5 then A i i ∧ B i i else if k = 6 then A i i ∨ B i i else if k = 7 then (A i i → B i i) else False := by
 unfold twoP
 rw [if_neg h.1, if_neg h.2]
theorem sem_turn {T T' : Tm} {n : Nat} (e : T.n = n) (e' : T'.n = n) (hn : ∀ lo hi i j, i ≤ j → j < n → (T'.near lo hi i j ↔ T.near lo hi (n - 1 - j) (n - 1 - i))) (hp : ∀ s i, i < n → (T'.pr s i ↔ T.pr s (n - 1 - i))) :
  ∀ (f : Fo) (i j : Nat), i < n → j < n → (sem T' (turnF f) i j ↔ sem T f (n - 1 - j) (n - 1 - i)) := by
 have hn2 : ∀ lo hi i j, i ≤ j → j < n → (T.near lo hi i j ↔ T'.near lo hi (n - 1 - j) (n - 1 - i)) := fun lo hi i j h1 h2 => by
  rw [hn lo hi (n - 1 - j) (n - 1 - i) (by omega) (by omega), show n - 1 - (n - 1 - i) = i by omega, show n - 1 - (n - 1 - j) = j by omega]
 intro f
 induction f with
 | z k s =>
  intro i j hi hj
  show sem T' (.z k s) i j ↔ _
  unfold sem
  rw [e, e']
  split
  ·constructor <;> intro h <;> omega
  ·unfold leafP
   constructor
   ·rintro ⟨rfl, h2, h3⟩
    refine ⟨rfl, by omega, ?_⟩
    rwa [← hp s j hi]
   ·rintro ⟨h1, h2, h3⟩
    obtain rfl : j = i := by omega
    refine ⟨rfl, hi, ?_⟩
    rwa [hp s j hi]
 | o k lo up f ih =>
  intro i j hi hj
  have ih2 : ∀ i j, i < n → j < n → (sem T f i j ↔ sem T' (turnF f) (n - 1 - j) (n - 1 - i)) := fun i j h1 h2 => by
   rw [ih (n - 1 - j) (n - 1 - i) (by omega) (by omega), show n - 1 - (n - 1 - i) = i by omega, show n - 1 - (n - 1 - j) = j by omega]
  have oT := sem_on T f
  have oT' := sem_on T' (turnF f)
  rw [e] at oT
  rw [e'] at oT'
  show sem T' (.o (turnK k) lo up (turnF f)) i j ↔ _
  unfold sem
  rw [e, e']
  by_cases h22 : k = 22
  ·subst h22
   rw [if_pos rfl, if_pos (by rfl)]
   exact and_congr ⟨fun _ => by omega, fun _ => hi⟩ (chain_turn oT oT' ih hi hj)
  have h22' : turnK k ≠ 22 := by rcases turnK_ways k with h | h | h | h | h | h | h | h | h | h | h <;> omega
  rw [if_neg h22, if_neg h22', ← and_assoc, ← and_assoc]
  have e1 : (j = i ∧ i < n) ↔ (n - 1 - i = n - 1 - j ∧ n - 1 - j < n) := by omega
  rw [e1]
  refine and_congr_right fun h0 => ?_
  obtain rfl : j = i := by omega
  clear e1 h0
  rcases turnK_ways k with ⟨rfl, hk⟩ | ⟨rfl, hk⟩ | ⟨rfl, hk⟩ | ⟨rfl, hk⟩ | ⟨rfl, hk⟩ | ⟨rfl, hk⟩ | ⟨rfl, hk⟩ | ⟨rfl, hk⟩ | ⟨rfl, hk⟩ | ⟨rfl, hk⟩ | ⟨hk, hx⟩
  ·rw [hk]
   show (j + 1 < T'.n ∧ T'.near lo up j (j + 1) ∧ sem T' (turnF f) (j + 1) (j + 1)) ↔ (0 < n - 1 - j ∧ T.near lo up (n - 1 - j - 1) (n - 1 - j) ∧ sem T f (n - 1 - j - 1) (n - 1 - j - 1))
   rw [e']
   constructor
   ·rintro ⟨h1, h2, h3⟩
    rw [hn lo up _ _ (by omega) h1, show n - 1 - (j + 1) = n - 1 - j - 1 by omega] at h2
    rw [ih _ _ h1 h1, show n - 1 - (j + 1) = n - 1 - j - 1 by omega] at h3
    exact ⟨by omega, h2, h3⟩
   ·rintro ⟨h1, h2, h3⟩
    have h1 : j + 1 < n := by omega
    rw [hn lo up _ _ (by omega) h1, ih _ _ h1 h1, show n - 1 - (j + 1) = n - 1 - j - 1 by omega]
    exact ⟨h1, h2, h3⟩
  ·rw [hk]
   show (0 < j ∧ T'.near lo up (j - 1) j ∧ sem T' (turnF f) (j - 1) (j - 1)) ↔ (n - 1 - j + 1 < T.n ∧ T.near lo up (n - 1 - j) (n - 1 - j + 1) ∧ sem T f (n - 1 - j + 1) (n - 1 - j + 1))
   rw [e]
   constructor
   ·rintro ⟨h1, h2, h3⟩
    rw [hn lo up _ _ (by omega) hj, show n - 1 - (j - 1) = n - 1 - j + 1 by omega] at h2
    rw [ih _ _ (by omega) (by omega), show n - 1 - (j - 1) = n - 1 - j + 1 by omega] at h3
    exact ⟨by omega, h2, h3⟩
   ·rintro ⟨h1, h2, h3⟩
    rw [hn lo up _ _ (by omega) hj, ih _ _ (by omega) (by omega), show n - 1 - (j - 1) = n - 1 - j + 1 by omega]
    exact ⟨by omega, h2, h3⟩
  ·rw [hk]
   show (∃ q, j ≤ q ∧ q < T'.n ∧ T'.near lo up j q ∧ sem T' (turnF f) q q) ↔ (∃ q, q ≤ n - 1 - j ∧ T.near lo up q (n - 1 - j) ∧ sem T f q q)
   rw [e']
   refine ex_turn (n := n) (fun q => ?_) (fun q => ?_)
   ·rintro ⟨h1, h2, h3, h4⟩
    exact ⟨by omega, (hn lo up j q h1 h2).1 h3, (ih q q h2 h2).1 h4⟩
   ·rintro ⟨h1, h3, h4⟩
    have h3 := (hn2 lo up q (n - 1 - j) h1 (by omega)).1 h3
    rw [show n - 1 - (n - 1 - j) = j by omega] at h3
    exact ⟨by omega, by omega, by omega, h3, (ih2 q q (by omega) (by omega)).1 h4⟩
  ·rw [hk]
   show (∀ q, j ≤ q → q < T'.n → T'.near lo up j q → sem T' (turnF f) q q) ↔ (∀ q, q ≤ n - 1 - j → T.near lo up q (n - 1 - j) → sem T f q q)
   rw [e']
   constructor
   ·intro h q h1 h3
    have h3 := (hn2 lo up q (n - 1 - j) h1 (by omega)).1 h3
    rw [show n - 1 - (n - 1 - j) = j by omega] at h3
    exact (ih2 q q (by omega) (by omega)).2 (h _ (by omega) (by omega) h3)
   ·intro h q h1 h2 h3
    exact (ih q q h2 h2).2 (h _ (by omega) ((hn lo up j q h1 h2).1 h3))
  ·rw [hk]
   show (∃ q, q ≤ j ∧ T'.near lo up q j ∧ sem T' (turnF f) q q) ↔ (∃ q, n - 1 - j ≤ q ∧ q < T.n ∧ T.near lo up (n - 1 - j) q ∧ sem T f q q)
   rw [e]
   refine ex_turn (n := n) (fun q => ?_) (fun q => ?_)
   ·rintro ⟨h1, h3, h4⟩
    exact ⟨by omega, by omega, (hn lo up q j h1 hj).1 h3, (ih q q (by omega) (by omega)).1 h4⟩
   ·rintro ⟨h1, h2, h3, h4⟩
    have h3 := (hn2 lo up (n - 1 - j) q h1 h2).1 h3
    rw [show n - 1 - (n - 1 - j) = j by omega] at h3
    exact ⟨h2, by omega, h3, (ih2 q q h2 h2).1 h4⟩
  ·rw [hk]
   show (∀ q, q ≤ j → T'.near lo up q j → sem T' (turnF f) q q) ↔ (∀ q, n - 1 - j ≤ q → q < T.n → T.near lo up (n - 1 - j) q → sem T f q q)
   rw [e]
   constructor
   ·intro h q h1 h2 h3
    have h3 := (hn2 lo up (n - 1 - j) q h1 h2).1 h3
    rw [show n - 1 - (n - 1 - j) = j by omega] at h3
    exact (ih2 q q h2 h2).2 (h _ (by omega) h3)
   ·intro h q h1 h3
    exact (ih q q (by omega) (by omega)).2 (h _ (by omega) (by omega) ((hn lo up q j h1 hj).1 h3))
  ·rw [hk]
   exact ih j j hj hj
  ·rw [hk]
   exact ih j j hj hj
  ·rw [hk]
   show (∃ q, j ≤ q ∧ q < T'.n ∧ T'.near lo up j q ∧ sem T' (turnF f) j q) ↔ (∃ q, q ≤ n - 1 - j ∧ T.near lo up q (n - 1 - j) ∧ sem T f q (n - 1 - j))
   rw [e']
   refine ex_turn (n := n) (fun q => ?_) (fun q => ?_)
   ·rintro ⟨h1, h2, h3, h4⟩
    exact ⟨by omega, (hn lo up j q h1 h2).1 h3, (ih j q hj h2).1 h4⟩
   ·rintro ⟨h1, h3, h4⟩
    have h3 := (hn2 lo up q (n - 1 - j) h1 (by omega)).1 h3
    have h4 := (ih2 q (n - 1 - j) (by omega) (by omega)).1 h4
    rw [show n - 1 - (n - 1 - j) = j by omega] at h3 h4
    exact ⟨by omega, by omega, by omega, h3, h4⟩
  ·rw [hk]
   show (∃ q, q ≤ j ∧ T'.near lo up q j ∧ sem T' (turnF f) q j) ↔ (∃ q, n - 1 - j ≤ q ∧ q < T.n ∧ T.near lo up (n - 1 - j) q ∧ sem T f (n - 1 - j) q)
   rw [e]
   refine ex_turn (n := n) (fun q => ?_) (fun q => ?_)
   ·rintro ⟨h1, h3, h4⟩
    exact ⟨by omega, by omega, (hn lo up q j h1 hj).1 h3, (ih q j (by omega) hj).1 h4⟩
   ·rintro ⟨h1, h2, h3, h4⟩
    have h3 := (hn2 lo up (n - 1 - j) q h1 h2).1 h3
    have h4 := (ih2 (n - 1 - j) q (by omega) h2).1 h4
    rw [show n - 1 - (n - 1 - j) = j by omega] at h3 h4
    exact ⟨h2, by omega, h3, h4⟩
  ·rw [hk, oneP_else hx, oneP_else hx]
   split
   ·exact not_congr (ih j j hj hj)
   ·exact ih j j hj hj
 | t k lo up f g ihf ihg =>
  intro i j hi hj
  have ihf2 : ∀ i j, i < n → j < n → (sem T f i j ↔ sem T' (turnF f) (n - 1 - j) (n - 1 - i)) := fun i j h1 h2 => by
   rw [ihf (n - 1 - j) (n - 1 - i) (by omega) (by omega), show n - 1 - (n - 1 - i) = i by omega, show n - 1 - (n - 1 - j) = j by omega]
  have ihg2 : ∀ i j, i < n → j < n → (sem T g i j ↔ sem T' (turnF g) (n - 1 - j) (n - 1 - i)) := fun i j h1 h2 => by
   rw [ihg (n - 1 - j) (n - 1 - i) (by omega) (by omega), show n - 1 - (n - 1 - i) = i by omega, show n - 1 - (n - 1 - j) = j by omega]
  show sem T' (if k = 21 then Fo.t k lo up (turnF g) (turnF f) else .t (turnK k) lo up (turnF f) (turnF g)) i j ↔ _
  by_cases h21 : k = 21
  ·subst h21
   rw [if_pos rfl]
   show (∃ q, sem T' (turnF g) i q ∧ sem T' (turnF f) q j) ↔ (∃ q, sem T f (n - 1 - j) q ∧ sem T g q (n - 1 - i))
   refine ex_turn (n := n) (fun q => ?_) (fun q => ?_)
   ·rintro ⟨h1, h2⟩
    have hq := (sem_on T' (turnF g) i q h1).2
    rw [e'] at hq
    exact ⟨(ihf q j hq hj).1 h2, (ihg i q hi hq).1 h1⟩
   ·rintro ⟨h1, h2⟩
    have hq := (sem_on T f _ q h1).2
    rw [e] at hq
    have h1 := (ihf2 (n - 1 - j) q (by omega) hq).1 h1
    have h2 := (ihg2 q (n - 1 - i) hq (by omega)).1 h2
    rw [show n - 1 - (n - 1 - j) = j by omega] at h1
    rw [show n - 1 - (n - 1 - i) = i by omega] at h2
    exact ⟨hq, h2, h1⟩
  rw [if_neg h21]
  have h21' : turnK k ≠ 21 := by rcases turnK_ways k with h | h | h | h | h | h | h | h | h | h | h <;> omega
  by_cases h20 : k = 20
  ·subst h20
   show (sem T' (turnF f) i j ∨ sem T' (turnF g) i j) ↔ (sem T f (n - 1 - j) (n - 1 - i) ∨ sem T g (n - 1 - j) (n - 1 - i))
   exact or_congr (ihf i j hi hj) (ihg i j hi hj)
  have h20' : turnK k ≠ 20 := by rcases turnK_ways k with h | h | h | h | h | h | h | h | h | h | h <;> omega
  unfold sem
  rw [if_neg h20, if_neg h20', if_neg h21, if_neg h21', e, e', ← and_assoc, ← and_assoc]
  have e1 : (j = i ∧ i < n) ↔ (n - 1 - i = n - 1 - j ∧ n - 1 - j < n) := by omega
  rw [e1]
  refine and_congr_right fun h0 => ?_
  obtain rfl : j = i := by omega
  clear e1 h0
  have other : (k ≠ 14 ∧ k ≠ 15) → (turnK k ≠ 14 ∧ turnK k ≠ 15) → ((k = 5 ↔ turnK k = 5) ∧ (k = 6 ↔ turnK k = 6) ∧ (k = 7 ↔ turnK k = 7)) → (twoP T' (turnK k) lo up (sem T' (turnF f)) (sem T' (turnF g)) j ↔ twoP T k lo up (sem T f) (sem T g) (n - 1 - j)) := fun h1 h2 ⟨h5, h6, h7⟩ => by
   rw [twoP_else h1, twoP_else h2, ← if_iff h5 rfl rfl, ← if_iff h6 rfl rfl, ← if_iff h7 rfl rfl]
   split
   ·exact and_congr (ihf j j hj hj) (ihg j j hj hj)
   split
   ·exact or_congr (ihf j j hj hj) (ihg j j hj hj)
   split
   ·exact imp_congr (ihf j j hj hj) (ihg j j hj hj)
   ·exact Iff.rfl
  by_cases h14 : k = 14
  ·subst h14
   rw [show turnK 14 = 15 from rfl]
   show (∃ q, j ≤ q ∧ q < T'.n ∧ T'.near lo up j q ∧ sem T' (turnF g) q q ∧ ∀ p, j ≤ p → p < q → sem T' (turnF f) p p) ↔ (∃ q, q ≤ n - 1 - j ∧ T.near lo up q (n - 1 - j) ∧ sem T g q q ∧ ∀ p, q < p → p ≤ n - 1 - j → sem T f p p)
   rw [e']
   refine ex_turn (n := n) (fun q => ?_) (fun q => ?_)
   ·rintro ⟨h1, h2, h3, h4, h5⟩
    exact ⟨by omega, (hn lo up j q h1 h2).1 h3, (ihg q q h2 h2).1 h4, fun p p1 p2 => (ihf2 p p (by omega) (by omega)).2 (h5 _ (by omega) (by omega))⟩
   ·rintro ⟨h1, h3, h4, h5⟩
    have h3 := (hn2 lo up q (n - 1 - j) h1 (by omega)).1 h3
    rw [show n - 1 - (n - 1 - j) = j by omega] at h3
    exact ⟨by omega, by omega, by omega, h3, (ihg2 q q (by omega) (by omega)).1 h4, fun p p1 p2 => (ihf p p (by omega) (by omega)).2 (h5 _ (by omega) (by omega))⟩
  by_cases h15 : k = 15
  ·subst h15
   rw [show turnK 15 = 14 from rfl]
   show (∃ q, q ≤ j ∧ T'.near lo up q j ∧ sem T' (turnF g) q q ∧ ∀ p, q < p → p ≤ j → sem T' (turnF f) p p) ↔ (∃ q, n - 1 - j ≤ q ∧ q < T.n ∧ T.near lo up (n - 1 - j) q ∧ sem T g q q ∧ ∀ p, n - 1 - j ≤ p → p < q → sem T f p p)
   rw [e]
   refine ex_turn (n := n) (fun q => ?_) (fun q => ?_)
   ·rintro ⟨h1, h3, h4, h5⟩
    exact ⟨by omega, by omega, (hn lo up q j h1 hj).1 h3, (ihg q q (by omega) (by omega)).1 h4, fun p p1 p2 => (ihf2 p p (by omega) (by omega)).2 (h5 _ (by omega) (by omega))⟩
   ·rintro ⟨h1, h2, h3, h4, h5⟩
    have h3 := (hn2 lo up (n - 1 - j) q h1 h2).1 h3
    rw [show n - 1 - (n - 1 - j) = j by omega] at h3
    exact ⟨h2, by omega, h3, (ihg2 q q h2 h2).1 h4, fun p p1 p2 => (ihf p p (by omega) (by omega)).2 (h5 _ (by omega) (by omega))⟩
  have hz : (turnK k ≠ 14 ∧ turnK k ≠ 15) ∧ (k = 5 ↔ turnK k = 5) ∧ (k = 6 ↔ turnK k = 6) ∧ (k = 7 ↔ turnK k = 7) := by rcases turnK_ways k with h | h | h | h | h | h | h | h | h | h | h <;> omega
  exact other ⟨h14, h15⟩ hz.1 hz.2
end Go.Proofs.Ytdbgaccnejffpaa.Sat
