/-
  The landed Reach's rounds, one after the other (stage 14). By an AI agent.
  slices.Equal, at two slices that read as integers. By an AI agent.
  The walk of the landed tree's May. By an AI agent.
  The walk of the reference's Plain. By an AI agent.
  The walk of the reference's SameNodes. By an AI agent.
  The walk of the reference's Same. By an AI agent.
-/
import Derived.Test.YtdbgaccnejffpaaGreatDoorGSatDual31
import Derived.Test.YtdbgaccnejffpaaGreatDoorChecked
import Derived.Test.YtdbgaccnejffpaaGreatDoorGSatDual1
import Derived.Test.YtdbgaccnejffpaaGreatDoorGSatDual15
import Derived.Test.YtdbgaccnejffpaaGreatDoorGSatDual22
import Derived.Deep.RegionWith
import Derived.Test.YtdbgaccnejffpaaGreatDoorGSatDual5
import Derived.Test.YtdbgaccnejffpaaGreatDoorGSatDual4
import Derived.Deep.RegionHeld3
namespace Go.Proofs.YtdbgaccnejffpaaGreatDoor.Paths
open Go.RowKit Go.Shelf Go.Proofs.YtdbgaccnejffpaaGreatDoor.Ints Go.Proofs.YtdbgaccnejffpaaGreatDoor.Mem Go.Proofs.YtdbgaccnejffpaaGreatDoor.Src Go.Proofs.YtdbgaccnejffpaaGreatDoor.Tree Go.Proofs.YtdbgaccnejffpaaGreatDoor.BitsWalks Go.Proofs.YtdbgaccnejffpaaGreatDoor.RdW Go.Proofs.YtdbgaccnejffpaaGreatDoor.Words Go.Proofs.YtdbgaccnejffpaaGreatDoor.Round
attribute [local go_sem] Oper.semAt_some wide_fn wide_depth
def runR (st sp : List Ed) (vs : Nat → List Nat) {nv : Nat} (is : List (Ix nv)) : (Nat → Nat) × (Nat → Nat → Bool) :=
 is.foldl (fun s i => (pointG st sp vs i.1 s.1, fun a => if a = i.1 then (fun j => hasI [pointG st sp vs i.1 s.1 0] ((j : Nat) : Int)) else s.2 a)) (fun _ => 0, fun _ _ => false)
theorem runR_snoc (st sp : List Ed) (vs : Nat → List Nat) {nv : Nat} (is : List (Ix nv)) (i : Ix nv) : runR st sp vs (is ++ [i]) = (pointG st sp vs i.1 (runR st sp vs is).1, fun a => if a = i.1 then (fun j => hasI [pointG st sp vs i.1 (runR st sp vs is).1 0] ((j : Nat) : Int)) else (runR st sp vs is).2 a) := by
 unfold runR
 rw [List.foldl_append]
 rfl
theorem runR_goals (st sp : List Ed) (vs : Nat → List Nat) {nv : Nat} : ∀ (k : Nat) (is : List (Ix nv)), is.length = k → (runR st sp vs is).1 = goalsF st sp vs is := by
 intro k
 induction k with
 | zero =>
  intro is h
  rw [List.eq_nil_of_length_eq_zero h]
  rfl
 | succ k ih =>
  intro is h
  obtain ⟨ys, y, rfl⟩ : ∃ ys y, is = ys ++ [y] := by
   have hne : is ≠ [] := fun e => by rw [e] at h; cases h
   exact ⟨is.dropLast, is.getLast hne, (List.dropLast_concat_getLast hne).symm⟩
  rw [runR_snoc, goalsF_snoc]
  show pointG st sp vs y.1 (runR st sp vs ys).1 = _
  rw [ih ys (by rw [List.length_append] at h; simpa using h)]
def rowF (st sp : List Ed) (vs : Nat → List Nat) {nv : Nat} (is : List (Ix nv)) : Nat → Nat → Bool := (runR st sp vs is).2
theorem rowF_snoc (st sp : List Ed) (vs : Nat → List Nat) {nv : Nat} (is : List (Ix nv)) (i : Ix nv) : rowF st sp vs (is ++ [i]) = fun a => if a = i.1 then (fun j => hasI [pointG st sp vs i.1 (goalsF st sp vs is) 0] ((j : Nat) : Int)) else rowF st sp vs is a := by
 unfold rowF
 rw [runR_snoc, runR_goals st sp vs _ is rfl]
theorem rowF_dn (st sp : List Ed) (vs : Nat → List Nat) {nv : Nat} : ∀ k, k ≤ nv → ∀ a, a < nv → nv - k ≤ a → ∀ j, rowF st sp vs (dn nv k) a j = hasI [goalsF st sp vs (dn nv (nv - a)) 0] ((j : Nat) : Int) := by
 intro k
 induction k with
 | zero => intro _ a ha h; omega
 | succ k ih =>
  intro hk a ha h j
  have hx : nv - 1 - k < nv := by omega
  rw [dn_succ hx, rowF_snoc]
  by_cases e : a = nv - 1 - k
  ·dsimp only
   rw [if_pos e, show nv - a = k + 1 by omega, dn_succ hx, goalsF_snoc]
  ·dsimp only
   rw [if_neg e]
   exact ih (by omega) a ha (by omega) j
def doneF {nv : Nat} (is : List (Ix nv)) (a : Nat) : Bool := is.any fun i => a == i.1
theorem doneF_snoc {nv : Nat} (is : List (Ix nv)) (i : Ix nv) : doneF (is ++ [i]) = fun a => doneF is a || a == i.1 := by
 funext a
 unfold doneF
 rw [List.any_append, List.any_cons, List.any_nil, Bool.or_false]
theorem doneF_dn {nv : Nat} : ∀ k, k ≤ nv → ∀ a, a < nv → nv - k ≤ a → doneF (dn nv k) a = true := by
 intro k
 induction k with
 | zero => intro _ a ha h; omega
 | succ k ih =>
  intro hk a ha h
  have hx : nv - 1 - k < nv := by omega
  rw [dn_succ hx, doneF_snoc]
  show (doneF (dn nv k) a || a == nv - 1 - k) = true
  by_cases e : a = nv - 1 - k
  ·rw [Bool.or_eq_true]
   exact .inr (beq_iff_eq.2 e)
  ·rw [ih (by omega) a ha (by omega), Bool.true_or]
theorem row_noncell {W W' : World} {row : Option Nat} {lo : Nat} {e : TypeId} {k n : Nat} {v : Value} {xs : List Value} (h : W.ownsRow lo e k v n xs) (hg : W.grownBy W' row) (hr : ∀ r, row = some r → ∃ o : Obj, W.heap[r]? = some o ∧ o.isCells = false) : W'.ownsRow lo e k v n xs := by
 refine h.kept hg ?_
 rcases h.2 with ⟨rfl, -⟩ | ⟨g, c, cur, rfl, -, hq, -⟩
 ·exact .inl rfl
 ·refine .inr fun e1 => ?_
  obtain ⟨o, ho, hc⟩ := hr g e1.symm
  rw [hq] at ho
  injection ho with ho
  rw [← ho] at hc
  cases hc
theorem boxed_noncell {W W' : World} {row : Option Nat} {B : Nat} {t : TypeId} {v : Value} (h : Boxed W B t v) (hg : W.grownBy W' row) (hr : ∀ r, row = some r → ∃ o : Obj, W.heap[r]? = some o ∧ o.isCells = false) : Boxed W' B t v :=
 h.kept hg (fun e => by
  obtain ⟨o, ho, hc⟩ := hr B e.symm
  rw [show W.heap[B]? = _ from h] at ho
  injection ho with ho
  rw [← ho] at hc
  cases hc)
structure RSt (W0 W : World) (lo lo3 np wn nv X7 X8 B1 B2 BR : Nat) (R1 R2 : Nat → Nat) (G : Nat → Nat) (done : Nat → Bool) (F : Nat → Nat → Bool) (Bg Bl : Nat) (Rg Rl f rb : Nat → Nat) : Prop where
 alt : (Bg = B1 ∧ Rg = R1 ∧ Bl = B2 ∧ Rl = R2) ∨ (Bg = B2 ∧ Rg = R2 ∧ Bl = B1 ∧ Rl = R1)
 x7 : Boxed W X7 103 (.slice (some ⟨Bg, 0, none⟩) np np)
 x8 : Boxed W X8 103 (.slice (some ⟨Bl, 0, none⟩) np np)
 sg : Sets W lo Bg Rg np wn G
 sl : Sets W lo Bl Rl np wn f
 rows : RowsT W lo3 BR nv done rb F
 left : Left (fun k => k = X7 ∨ k = X8 ∨ k = BR ∨ InRows R1 np k ∨ InRows R2 np k) W0 W
theorem RSt.own {W0 W W' : World} {lo lo3 np wn nv X7 X8 B1 B2 BR : Nat} {R1 R2 : Nat → Nat} {G : Nat → Nat} {done : Nat → Bool} {F : Nat → Nat → Bool} {Bg Bl : Nat} {Rg Rl f rb : Nat → Nat} (h : RSt W0 W lo lo3 np wn nv X7 X8 B1 B2 BR R1 R2 G done F Bg Bl Rg Rl f rb) {row : Option Nat}
  (hg : W.grownBy W' row) (hr : ∀ r, row = some r → W0.heap.size ≤ r ∧ ∃ o : Obj, W.heap[r]? = some o ∧ o.isCells = false) : RSt W0 W' lo lo3 np wn nv X7 X8 B1 B2 BR R1 R2 G done F Bg Bl Rg Rl f rb := by
 have hr' : ∀ r, row = some r → ∃ o : Obj, W.heap[r]? = some o ∧ o.isCells = false := fun r e => (hr r e).2
 exact ⟨h.alt, boxed_noncell h.x7 hg hr', boxed_noncell h.x8 hg hr', ⟨row_noncell h.sg.out hg hr', fun i hi => row_noncell (h.sg.row i hi) hg hr', h.sg.off, h.sg.wd⟩, ⟨row_noncell h.sl.out hg hr', fun i hi => row_noncell (h.sl.row i hi) hg hr', h.sl.off, h.sl.wd⟩,
  ⟨row_noncell h.rows.out hg hr', fun a ha hd => row_noncell (h.rows.row a ha hd) hg hr', h.rows.off⟩, Left.own () W W' row h.left hg hr⟩
set_option maxHeartbeats 16000000 in
set_option maxRecDepth 100000 in
theorem reach_range (A V : Option Addr) (n c nv cv np nt wn b3 b5 b6 bB gp BR X7 X8 B1 B2 lo lo1 lo3 Lo : Nat) (v22 v26 sv pv : Value) (R1 R2 rb0 : Nat → Nat) (st sp : List Ed) (vs : Nat → List Nat) (Fv : Nat → Option Addr × Nat × Nat) (ds : List Deferred) (W0 : World) (Q : Exit → Act → World → Prop) (C : Code)
  (hC : C = cBlock (cSnd (cFst (cSnd (cSnd (cSnd (cSnd (cSnd (Tryz.f84.body.getD .skip)))))))))
  (hnv : nv ≤ 64) (hwn : 0 < nv → wn = 1) (hnp : 2 ≤ np ∧ np ≤ 2000000) (hG : GMem W0 lo1 gp sv pv np nt st sp) (hT : Two W0 lo np wn X7 X8 B1 B2 R1 R2)
  (h3 : W0.cell? ⟨b3, 0, none⟩ = some (.slice V nv cv)) (h5 : W0.cell? ⟨b5, 0, none⟩ = some (.pointer (some ⟨gp, 0, none⟩))) (h6 : W0.cell? ⟨b6, 0, none⟩ = some (.slice (some ⟨BR, 0, none⟩) nv nv)) (hbB : W0.cell? ⟨bB, 0, none⟩ = some (.slice V nv cv))
  (hgl : gp < Lo) (hsl : ∀ q, sv.ownBlock = some q → q < Lo) (hpl : ∀ q, pv.ownBlock = some q → q < Lo) (l3 : b3 < Lo) (l5 : b5 < Lo) (lR : Lo ≤ BR) (lR2 : BR < lo) (l6 : b6 < lo) (n6 : BR ≠ b6) (lL : Lo ≤ lo) (lB : ∀ k, (k = X7 ∨ k = X8 ∨ k = BR ∨ InRows R1 np k ∨ InRows R2 np k) → k ≠ bB)
  (hrows : RowsT W0 lo3 BR nv (fun _ => false) rb0 (fun _ _ => false)) (hlo3 : lo3 ≤ W0.heap.size)
  (hv : ∀ i, i < nv → ∃ b off, V = some ⟨b, off, none⟩ ∧ b < Lo ∧ W0.cell? ⟨b, off + i, none⟩ = some (.slice (Fv i).1 (Fv i).2.1 (Fv i).2.2) ∧ RdW W0 (Fv i).1 (Fv i).2.1 (vs i) ∧ ∀ a, (Fv i).1 = some a → 0 < (Fv i).2.1 → a.block < Lo)
  (hE : ∀ e ∈ st, (e.1 < np ∧ e.2.1 < np) ∧ e.2.2 ≤ 9223372036854775807) (hE2 : ∀ e ∈ sp, e.1 < np ∧ e.2.1 < np) (hst : st.length ≤ 100000000) (hsp : sp.length ≤ 2000000)
  (hdone : ∀ (D : Nat) (W : World) (rb : Nat → Nat), W0.heap.size ≤ D → RowsT W lo3 BR nv (doneF (dn nv nv)) rb (rowF st sp vs (dn nv nv)) → Left (fun k => k = X7 ∨ k = X8 ∨ k = BR ∨ InRows R1 np k ∨ InRows R2 np k) W0 W → W.heap[D]? = some (.deferred (some [])) →
   Q .normal { tmps := #[.slice A n c, .slice V nv cv, undef, .pointer (some ⟨b3, 0, none⟩), .slice none 0 0, .pointer (some ⟨b5, 0, none⟩), .pointer (some ⟨b6, 0, none⟩), .pointer (some ⟨X7, 0, none⟩), .pointer (some ⟨X8, 0, none⟩), undef, undef, .slice A n c, .bool true, .bool false, .slice A n c, .pointer (some ⟨gp, 0, none⟩), .slice V nv cv, .int .i64 (nv : Nat), .slice (some ⟨BR, 0, none⟩) nv nv, .pointer (some ⟨gp, 0, none⟩), .slice V nv cv, .int .i64 (nv : Nat), v22, .pointer (some ⟨gp, 0, none⟩), .slice V nv cv, .int .i64 (nv : Nat), v26, .slice V nv cv, .func (.func 99) #[] #[.pointer (some ⟨bB, 0, none⟩)], undef, undef, undef, undef, undef, undef, undef, undef, undef, undef, undef, undef, undef, undef, undef, undef, undef, undef, undef, undef, undef, undef, undef, undef, undef, undef, undef, undef, undef, undef, undef, undef, undef, undef], defers := { target := .collected D, args := #[] } :: ds } W) :
  C.wpIn Fence.wide 10 Tryz.prog Q { tmps := #[.slice A n c, .slice V nv cv, undef, .pointer (some ⟨b3, 0, none⟩), .slice none 0 0, .pointer (some ⟨b5, 0, none⟩), .pointer (some ⟨b6, 0, none⟩), .pointer (some ⟨X7, 0, none⟩), .pointer (some ⟨X8, 0, none⟩), undef, undef, .slice A n c, .bool true, .bool false, .slice A n c, .pointer (some ⟨gp, 0, none⟩), .slice V nv cv, .int .i64 (nv : Nat), .slice (some ⟨BR, 0, none⟩) nv nv, .pointer (some ⟨gp, 0, none⟩), .slice V nv cv, .int .i64 (nv : Nat), v22, .pointer (some ⟨gp, 0, none⟩), .slice V nv cv, .int .i64 (nv : Nat), v26, .slice V nv cv, .func (.func 99) #[] #[.pointer (some ⟨bB, 0, none⟩)], undef, undef, undef, undef, undef, undef, undef, undef, undef, undef, undef, undef, undef, undef, undef, undef, undef, undef, undef, undef, undef, undef, undef, undef, undef, undef, undef, undef, undef, undef, undef, undef, undef, undef], defers := ds } W0 := by
 have lt_of : ∀ {p : Addr} {v : Value}, W0.cell? p = some v → p.block < W0.heap.size := fun h => World.block_lt_of_cell? W0 _ h
 have hDlt : ∀ k, (k = X7 ∨ k = X8 ∨ k = BR ∨ InRows R1 np k ∨ InRows R2 np k) → Lo ≤ k ∧ k < W0.heap.size := fun k hk => by
  rcases hk with rfl | rfl | rfl | ⟨i, hi, rfl⟩ | ⟨i, hi, rfl⟩
  ·exact ⟨by have := hT.lo7; omega, hT.x7.lt⟩
  ·exact ⟨by have := hT.lo8; omega, hT.x8.lt⟩
  ·exact ⟨lR, (hrows.out.lt _ rfl).2⟩
  ·have := hT.s1.lt.2 i hi
   exact ⟨by omega, this.2⟩
  ·have := hT.s2.lt.2 i hi
   exact ⟨by omega, this.2⟩
 have hA : ∀ k, (k = bB ∨ ∃ b off, V = some ⟨b, off, none⟩ ∧ 0 < nv ∧ k = b) → k < W0.heap.size := fun k hk => by
  rcases hk with rfl | ⟨b, off, e, h0, rfl⟩
  ·exact lt_of hbB
  ·obtain ⟨b', off', e', -, hc, -⟩ := hv 0 h0
   rw [e] at e'
   injection e' with e'
   injection e' with e1 _ _
   have : b' < W0.heap.size := lt_of hc
   omega
 have hAD : ∀ k, (k = bB ∨ ∃ b off, V = some ⟨b, off, none⟩ ∧ 0 < nv ∧ k = b) → ¬ (k = X7 ∨ k = X8 ∨ k = BR ∨ InRows R1 np k ∨ InRows R2 np k) := fun k hk hd => by
  rcases hk with rfl | ⟨b, off, e, h0, rfl⟩
  ·exact lB _ hd rfl
  ·obtain ⟨b', off', e', hb', -⟩ := hv 0 h0
   rw [e] at e'
   injection e' with e'
   injection e' with e1 _ _
   have := (hDlt _ hd).1
   omega
 have hseq := backV_stops 9 (by omega) bB V nv cv (fun i => .slice (Fv i).1 (Fv i).2.1 (Fv i).2.2) (fun k => k = bB ∨ ∃ b off, V = some ⟨b, off, none⟩ ∧ 0 < nv ∧ k = b) W0 (.inl rfl) hA (by omega) hbB (fun W hW i hi => by
  obtain ⟨b, off, e, -, hc, -⟩ := hv i hi
  exact ⟨b, off, e, (World.cell?_of_block (w := W0) (a := ⟨b, off + i, none⟩) (hW b (.inr ⟨b, off, e, by omega, rfl⟩))).trans hc⟩)
 simp only [Tryz.f84, Option.getD_some, cFst, cSnd, cBlock] at hC
 subst hC
 refine wpIn_rangeFunc_ownG (gf := 99) (lb := #[.pointer (some ⟨bB, 0, none⟩)]) rfl (by omega) rfl trivial (enters_of Tryz.func99 (by kernel_rfl) rfl) hseq
  (fun h k => KpA.trans h k) (kpA_b hA) (Below.refl _ _) (fun _ => rfl)
  (fun pre W => ∃ Bg Bl Rg Rl f rb, RSt W0 W lo lo3 np wn nv X7 X8 B1 B2 BR R1 R2 (goalsF st sp vs pre) (doneF pre) (rowF st sp vs pre) Bg Bl Rg Rl f rb) (fun _ _ _ => False)
  (fun pre W W' row ⟨Bg, Bl, Rg, Rl, f, rb, h⟩ hg hr => ⟨Bg, Bl, Rg, Rl, f, rb, h.own hg hr⟩) (fun _ _ _ _ _ h _ _ => h)
  ⟨B1, B2, R1, R2, _, rb0, .inl ⟨rfl, rfl, rfl, rfl⟩, hT.x7, hT.x8, hT.s1, hT.s2, hrows, Left.refl _ _⟩
  (fun x => { tmps := #[.slice A n c, .slice V nv cv, undef, .pointer (some ⟨b3, 0, none⟩), .slice none 0 0, .pointer (some ⟨b5, 0, none⟩), .pointer (some ⟨b6, 0, none⟩), .pointer (some ⟨X7, 0, none⟩), .pointer (some ⟨X8, 0, none⟩), .int .i64 ((x.1 : Nat) : Int), .slice (Fv x.1).1 (Fv x.1).2.1 (Fv x.1).2.2, .slice A n c, .bool true, .bool false, .slice A n c, .pointer (some ⟨gp, 0, none⟩), .slice V nv cv, .int .i64 (nv : Nat), .slice (some ⟨BR, 0, none⟩) nv nv, .pointer (some ⟨gp, 0, none⟩), .slice V nv cv, .int .i64 (nv : Nat), v22, .pointer (some ⟨gp, 0, none⟩), .slice V nv cv, .int .i64 (nv : Nat), v26, .slice V nv cv, .func (.func 99) #[] #[.pointer (some ⟨bB, 0, none⟩)], .int .i64 ((x.1 : Nat) : Int), .slice (Fv x.1).1 (Fv x.1).2.1 (Fv x.1).2.2, undef, undef, undef, undef, undef, undef, undef, undef, undef, undef, undef, undef, undef, undef, undef, undef, undef, undef, undef, undef, undef, undef, undef, undef, undef, undef, undef, undef, undef, undef, undef, undef], defers := [] })
  ?assign ?body ?done ?stop
 case assign =>
  intro l x W K' hK
  gi_wp2
  exact hK
 case body =>
  rintro l pre x W ⟨Bg, Bl, Rg, Rl, f, rb, h⟩ hlen
  have hnv0 : 0 < nv := by have := x.2; omega
  obtain rfl := hwn hnv0
  obtain ⟨b, off, eV, hbL, hc, hrd, hkl⟩ := hv x.1 x.2
  have hbw : Below Lo W0 W := h.left.below (fun k hk => (hDlt k hk).1) (by have := hT.lo7; have := hT.x7.lt; omega)
  have hap : ∀ i j, i < np → j < np → Rl i ≠ Rg j := fun i j hi hj => by
   rcases h.alt with ⟨-, rfl, -, rfl⟩ | ⟨-, rfl, -, rfl⟩
   ·exact fun e => hT.ap.2 j i hj hi e.symm
   ·exact hT.ap.2 i j hi hj
  have hin : ∀ k, InRows Rl np k → InRows R1 np k ∨ InRows R2 np k := fun k hk => by
   rcases h.alt with ⟨-, rfl, -, rfl⟩ | ⟨-, rfl, -, rfl⟩
   ·exact .inr hk
   ·exact .inl hk
  have h6W : W.cell? ⟨b6, 0, none⟩ = some (.slice (some ⟨BR, 0, none⟩) nv nv) := (World.cell?_of_block (w := W0) (a := ⟨b6, 0, none⟩) (h.left.block b6 (lt_of h6) (fun hd => by
   rcases hd with e | e | e | ⟨i, hi, e⟩ | ⟨i, hi, e⟩
   ·have := hT.lo7; omega
   ·have := hT.lo8; omega
   ·exact n6 e.symm
   ·have := (hT.s1.lt.2 i hi).1; omega
   ·have := (hT.s2.lt.2 i hi).1; omega))).trans h6
  refine wpIn_mono (reach_body A V (Fv x.1).1 n c nv cv np nt b3 b5 b6 gp BR X7 X8 Bg Bl lo lo1 lo3 (Fv x.1).2.1 (Fv x.1).2.2 x.1 l v22 v26 _ sv pv Rg Rl _ f rb st sp vs (doneF pre) (rowF st sp vs pre) W _ rfl x.2 hnv hnp (hG.low hbw hgl hsl hpl) h.sg h.sl hap h.x7 h.x8 hT.xx hT.lo7 hT.lo8
   ((hbw.cell (p := ⟨b3, 0, none⟩) l3).trans h3) ((hbw.cell (p := ⟨b5, 0, none⟩) l5).trans h5) h6W (by omega) (fun q e => by have := hsl q e; omega) (fun q e => by have := hpl q e; omega) (by omega) (by omega) l6 lR2 (by omega) n6 h.rows (rdW_low hrd hbw hkl) (fun a e h0 => by have := hkl a e h0; omega) hE hE2 hst hsp (by have := h.left.size; omega)
   (fun _ W' => ownPostG W0.heap.size (KpA fun k => k = bB ∨ ∃ b off, V = some ⟨b, off, none⟩ ∧ 0 < nv ∧ k = b) (fun pre W => ∃ Bg Bl Rg Rl f rb, RSt W0 W lo lo3 np 1 nv X7 X8 B1 B2 BR R1 R2 (goalsF st sp vs pre) (doneF pre) (rowF st sp vs pre) Bg Bl Rg Rl f rb) (fun _ _ _ => False) (pre ++ [x]) W .normal { tmps := #[], defers := [] } W')
   (fun a W' B y7 y8 sl' sg' rows' hL => ?_)) ?_
  ·have hL2 : Left (fun k => k = X7 ∨ k = X8 ∨ k = BR ∨ InRows R1 np k ∨ InRows R2 np k) W W' := hL.more (fun k hk => hk.imp id (fun hk => hk.imp id (fun hk => hk.imp id (hin k))))
   refine ⟨keeps_left hL2 (fun k hk => (hDlt k hk).2), kpA_left hL2 (fun k hk => ⟨Nat.lt_of_lt_of_le (hA k hk) h.left.size, hAD k hk⟩), Bl, Bg, Rl, Rg, goalsF st sp vs pre, (fun a => if a = x.1 then B else rb a), ?_, y7, y8, ?_, sg', ?_, h.left.trans hL2⟩
   ·rcases h.alt with ⟨e1, e2, e3, e4⟩ | ⟨e1, e2, e3, e4⟩
    ·exact .inr ⟨e3, e4, e1, e2⟩
    ·exact .inl ⟨e3, e4, e1, e2⟩
   ·rw [goalsF_snoc]
    exact sl'
   ·rw [doneF_snoc, rowF_snoc]
    exact rows'
  ·intro e a W' hp
   cases e with
   | normal => exact hp
   | ret => exact hp.elim
   | exit id => exact hp.elim
   | goto t => exact hp.elim
   | panic ch => exact hp.elim
   | outgrown => exact hp.elim
 case done =>
  rintro D ys W hD rfl ⟨Bg, Bl, Rg, Rl, f, rb, h⟩ hK
  exact hdone D W rb hD h.rows h.left hK
 case stop =>
  rintro D c pre W _ _ h _
  exact h.elim
end Go.Proofs.YtdbgaccnejffpaaGreatDoor.Paths

namespace Go.Proofs.YtdbgaccnejffpaaGreatDoor.Tree
open Go.RowKit Go.Proofs.YtdbgaccnejffpaaGreatDoor.Ints
theorem equalInts (K1 K2 : Option Addr) (n1 c1 n2 c2 : Nat) (l1 l2 : List Int) (w : World) (h1 : Rd .i64 w K1 n1 l1) (h2 : Rd .i64 w K2 n2 l2) (hb1 : n1 ≤ maxLen) (hb2 : n2 ≤ maxLen) :
  Calls Tryz.prog 51 #[.slice K1 n1 c1, .slice K2 n2 c2] w fun e w' => e = .returned (.bool (decide (l1 = l2))) ∧ ∃ q, w' = w.drewN q := by
 have hm : maxLen = 9223372036854775807 := rfl
 by_cases hn : n1 = n2
 ·subst hn
  by_cases h0 : n1 = 0
  ·subst h0
   have e1 : l1 = [] := List.eq_nil_of_length_eq_zero h1.len
   have e2 : l2 = [] := List.eq_nil_of_length_eq_zero h2.len
   subst e1; subst e2
   exact (Tryz.slices_Equal_int_empty K1 K2 c1 0 c2 w (by omega)).mono fun e w' ⟨he, hw⟩ => ⟨he, 0, hw⟩
  ·obtain ⟨b1, o1, rfl, k1⟩ := h1.cell (by omega)
   obtain ⟨b2, o2, rfl, k2⟩ := h2.cell (by omega)
   refine (Tryz.slices_Equal_int b1 o1 n1 c1 b2 o2 n1 c2 l1 l2 w (by rw [h1.len]; exact Nat.le_refl _) (by rw [h2.len]; exact Nat.le_refl _) (by omega) (by omega) (fun j hj => by have := k1 j (by rw [← h1.len]; exact hj); simpa [List.getD] using this) (fun j hj => by have := k2 j (by rw [← h2.len]; exact hj); simpa [List.getD] using this)).mono fun e w' ⟨he, hw⟩ => ⟨?_, hw⟩
   rw [he, List.take_of_length_le (by rw [h1.len]; exact Nat.le_refl _), List.take_of_length_le (by rw [h2.len]; exact Nat.le_refl _)]
   congr 2
   rw [Bool.eq_iff_iff, beq_iff_eq, decide_eq_true_iff]
 ·have hne : decide (l1 = l2) = false := by
   rw [decide_eq_false_iff_not]
   intro e
   exact hn (by rw [← h1.len, ← h2.len, e])
  rw [hne]
  exact (Tryz.slices_Equal_int_lens K1 K2 n1 c1 n2 c2 w hn).mono fun e w' ⟨he, hw⟩ => ⟨he, 0, hw⟩
end Go.Proofs.YtdbgaccnejffpaaGreatDoor.Tree

namespace Go.Proofs.YtdbgaccnejffpaaGreatDoor.Tree
open Go.RowKit Go.Proofs.YtdbgaccnejffpaaGreatDoor.Ints
theorem land_next (st : List Nat) (f k : Nat) (_h : f ≤ st.length) : (zints st).take f ++ [(k : Int)] = zints (st.take f ++ [k]) := by
 unfold zints
 rw [List.map_append, List.map_take]; rfl
theorem own_front {w : World} {base : Nat} {e : TypeId} {D : Option Addr} {n c f : Nat} {zs : List Int} (h : w.ownsRow base e 1 (.slice D n c) n (zs.map (Value.int .i64))) (hf : f ≤ n) : w.ownsRow base e 1 (.slice D f c) f ((zs.take f).map (Value.int .i64)) := by
 have hl := h.1
 rcases h.2 with ⟨h1, h2⟩ | ⟨g, cap, cur, h1, h2⟩
 ·injection h1 with h1 h3 h4
  subst h1; subst h4
  have : f = 0 := by omega
  subst this
  exact World.ownsRow_nil _ _ _ _
 ·injection h1 with h1 h3 h4
  subst h1; subst h4
  obtain ⟨h5, h6, h7, h8, h9, h10⟩ := h2
  refine ⟨by simp only [List.length_map, List.length_take, Nat.mul_one] at hl ⊢; omega, .inr ⟨g, c, cur, rfl, h5, h6, by omega, h8, h9, ?_⟩⟩
  rw [List.map_take, ← h10]
  simp only [Nat.mul_one]
  rw [List.take_take]
  congr 1
  omega
theorem land_own {w : World} {base : Nat} {e : TypeId} {v : Value} {st : List Nat} {f k : Nat} (hf : f ≤ st.length) (h : w.ownsRow base e 1 v (f + 1) (((zints st).take f ++ [(k : Int)]).map (Value.int .i64))) :
  w.ownsRow base e 1 v (st.take f ++ [k]).length ((zints (st.take f ++ [k])).map (Value.int .i64)) := by
 rw [land_next st f k hf] at h
 have e : (st.take f ++ [k]).length = f + 1 := by
  rw [List.length_append, List.length_take, List.length_singleton]; omega
 rw [e]; exact h
theorem len_one (n : Nat) : ((n : Int) == 1) = decide (n = 1) := by
 rw [Bool.eq_iff_iff, beq_iff_eq, decide_eq_true_iff]; omega
theorem below_undrew {B : Nat} {a w' : World} {q : Nat} (h : Below B (a.drewN q) w') : Below B a w' := ⟨h.os, h.tape, h.output, h.size, h.block⟩
set_option maxHeartbeats 8000000 in
set_option maxRecDepth 100000 in
theorem landMay (A : Option Addr) (n c : Nat) (l : List Nd) (w : World) (hl : l.length = n) (hn : n ≤ 1048576) (h : Nodes Any w A l) :
  Calls Tryz.prog 30 #[.slice A n c] w fun e w' => e = .returned (.bool (mayL l)) ∧ Below w.heap.size w w' := by
 obtain ⟨i0, hi, hz0, hz1, hz2⟩ := info_parts infoInt
 have hni : (n : Int) ≤ 1048576 := by omega
 have HN := Lib.hid hn
 have HL := Lib.hid hl
 have HD := Lib.hid h
 clear hn hl h
 go_enter Tryz.func30, Tryz.ntmps30
 go_wp2
 go_loopw [3, 10] (fun o i wr => ∃ (k : Nat) (st : List Nat), k ≤ n ∧ i = .int .i64 k ∧ Hid (mayUpTo l k = some st) ∧ wr.ownsRow w.heap.size 3 1 o st.length ((zints st).map (Value.int .i64)) ∧ Below w.heap.size w wr) (fun _ i _ => n - (intOf i).toNat)
 case atStart => exact ⟨0, [], Nat.zero_le _, rfl, rfl, World.ownsRow_made w #[] 0 (Nat.le_refl _) (by decide) rfl, (Below.refl _ _).alloc (Nat.le_refl _) _⟩
 case round =>
  obtain ⟨k, st, hk, rfl, HU, hown, hB⟩ := hrel
  obtain ⟨D, cD, rfl, hD1, hD2, -, -⟩ := own_slice hown
  have HO := Lib.hid hown
  have HB := Lib.hid hB
  have hst := (upTo_lt l k st HU.out).2
  have HST := Lib.hid (upTo_lt l k st HU.out).1
  clear hown hB
  by_cases hkn : k < n
  ·have hkn' : (k : Int) < (n : Int) := by omega
   have hkl : k < l.length := by have := HL.out; omega
   obtain ⟨b, off, e, hnodes⟩ := (HD.out.below HB.out) (by omega)
   obtain ⟨nd, hnd⟩ : ∃ nd, l[k]? = some nd := ⟨_, List.getElem?_eq_getElem hkl⟩
   obtain ⟨x0, x1, x2, x3, s0, s2, s3, s1, K, cK, x4, hK, hKc, hcK, -, -⟩ := hnodes k nd hnd
   rw [Nat.mul_comm 5 k] at x0 x1 x2 x3 x4
   obtain ⟨m, hm⟩ : ∃ m, nd.kids.length = m := ⟨_, rfl⟩
   rw [hm] at x4 hK hKc
   have HND := Lib.hid hnd
   have HM := Lib.hid hm
   have HRK := Lib.hid hK
   have HKC := Lib.hid (fun W => landKidCount nd.kind W)
   have HFD := Lib.hid (fun W => landRightFields nd K m cK W s1)
   obtain ⟨q, hq⟩ : ∃ q, kidc nd.kind = q := ⟨_, rfl⟩
   rw [hq] at HKC
   have hq2 : q ≤ 2 := by
    rw [← hq]; unfold kidc
    split
    ·omega
    ·split <;> omega
   have HQ := Lib.hid hq
   have HSTOP := Lib.hid (land_stop HU.out hnd)
   have HGO := Lib.hid (land_go HU.out hnd)
   rw [hq] at HSTOP HGO
   subst e
   clear hnd hnodes hK hq hm hkl
   by_cases hqs : q ≤ st.length
   ·obtain ⟨f, hf⟩ : ∃ f, st.length - q = f := ⟨_, rfl⟩
    have hdm : (st.length : Int) - (q : Int) = (f : Int) := by omega
    have hfq : st.length - f = q := by omega
    have hfs : f ≤ st.length := by omega
    have hf0 : decide ((f : Int) < 0) = false := by simp
    have hfc : (f : Int) ≤ (cD : Int) := by omega
    have hfs' : (f : Int) ≤ (st.length : Int) := by omega
    have hrt := Rd.from (Rd.own HO.out (zints_wf st n HN.out (fun x hx => Nat.lt_trans (HST.out x hx) hkn))) hD1 hfs
    have hsl := slice_from (P := Tryz.prog) 35 typeInts 1 sizeElemInts D st.length cD f hfs
    rw [hfq] at hrt hsl
    obtain ⟨T, hT⟩ : ∃ T, fromAddr D cD f 1 = T := ⟨_, rfl⟩
    obtain ⟨cT, hcT⟩ : ∃ cT, cD - f = cT := ⟨_, rfl⟩
    rw [hT] at hrt hsl
    rw [hcT] at hsl
    rw [hf] at HSTOP HGO
    have HEQ := Lib.hid (fun W (hb : Below wr.heap.size wr W) => equalInts K T m cK q cT nd.kids ((zints st).drop f) W (HRK.out.below hb) (hrt.below hb) (Nat.le_trans hKc hcK) (by have : maxLen = 9223372036854775807 := rfl; omega))
    have HHF := Lib.hid hf
    have HQS := Lib.hid hqs
    clear hrt hT hcT hf hfq hqs
    by_cases hke : nd.kids = (zints st).drop f
    ·rw [decide_eq_true hke] at HEQ
     have HKE := Lib.hid hke
     obtain ⟨B1, hB1⟩ : ∃ b, fieldsB nd = b := ⟨_, rfl⟩
     rw [hB1] at HFD
     have hmq : m = q := by rw [← HM.out, hke, List.length_drop, zints, List.length_map]; have := HHF.out; have := HQS.out; omega
     have HKS := Lib.hid (fun W (hb : Below wr.heap.size wr W) => landRightKids (some ⟨b, off, none⟩) n c l nd K m cK W HL.out HN.out (HD.out.below (HB.out.trans (hb.mono HB.out.size))) HM.out (HRK.out.below hb) (by omega) (fun x hx => by
      rw [hke] at hx
      obtain ⟨t, ht, rfl⟩ := List.mem_map.1 (List.mem_of_mem_drop hx)
      have := HST.out t ht
      omega))
     obtain ⟨B2, hB2⟩ : ∃ b, kidsB l nd = b := ⟨_, rfl⟩
     simp only [hB2] at HKS
     have HB1 := Lib.hid hB1
     have HB2 := Lib.hid hB2
     clear hke hB1 hB2 hmq
     rcases B1 with _ | _
     ·have HM2 := Lib.hid (HSTOP.out fun ⟨_, _, h3, _⟩ => by rw [HB1.out] at h3; cases h3)
      clear HB1 HB2 HKS
      go_wp2_with (first | (go_at_call 50; refine (HKC.out _).mono ?_; rintro e w' ⟨rfl, rfl⟩))
      first
       | (go_region_with (first
         | (go_at_call 51; refine (HEQ.out _ (by first | exact (Below.refl _ _).alloc (Nat.le_refl _) _ | exact ((Below.refl _ _).alloc (Nat.le_refl _) _).drew)).mono ?_; rintro e w' ⟨rfl, qq, rfl⟩)
         | (go_at_call 52; refine (HFD.out _).mono ?_; rintro e w1 ⟨rfl, hb1⟩)))
       | fail
      all_goals
       go_wp2
       go_ret
       exact ⟨by rw [HM2.out]; rfl, HB.out.trans ((below_box (below_undrew hb1)).mono HB.out.size)⟩
     ·rcases B2 with _ | _
      ·have HM2 := Lib.hid (HSTOP.out fun ⟨_, _, _, h4⟩ => by rw [HB2.out] at h4; cases h4)
       clear HB1 HB2
       go_wp2_with (first | (go_at_call 50; refine (HKC.out _).mono ?_; rintro e w' ⟨rfl, rfl⟩))
       first
        | (go_region_with (first
          | (go_at_call 51; refine (HEQ.out _ (by first | exact (Below.refl _ _).alloc (Nat.le_refl _) _ | exact ((Below.refl _ _).alloc (Nat.le_refl _) _).drew)).mono ?_; rintro e w' ⟨rfl, qq, rfl⟩)
          | (go_at_call 52; refine (HFD.out _).mono ?_; rintro e w1 ⟨rfl, hb1⟩; obtain ⟨c0, c1, c2, c3, c4⟩ := box5 (below_undrew hb1))
          | (go_at_call 53; refine (HKS.out _ (by first | exact below_box (below_undrew hb1) | exact below_drewN (below_box (below_undrew hb1)) _ | exact (below_box (below_undrew hb1)).drew)).mono ?_; rintro e w2 ⟨rfl, hb2⟩)))
        | fail
       all_goals
        go_wp2
        go_ret
        exact ⟨by rw [HM2.out]; rfl, HB.out.trans (((below_box (below_undrew hb1)).trans (hb2.mono (below_box (below_undrew hb1)).size)).mono HB.out.size)⟩
      ·have HG2 := Lib.hid (HGO.out ⟨HQS.out, HKE.out, HB1.out, HB2.out⟩)
       have HFS := Lib.hid hfs
       clear HB1 HB2
       go_wp2_with (first | (go_at_call 50; refine (HKC.out _).mono ?_; rintro e w' ⟨rfl, rfl⟩))
       first
        | (go_region_with (first
          | (go_at_call 51; refine (HEQ.out _ (by first | exact (Below.refl _ _).alloc (Nat.le_refl _) _ | exact ((Below.refl _ _).alloc (Nat.le_refl _) _).drew)).mono ?_; rintro e w' ⟨rfl, qq, rfl⟩)
          | (go_at_call 52; refine (HFD.out _).mono ?_; rintro e w1 ⟨rfl, hb1⟩; obtain ⟨c0, c1, c2, c3, c4⟩ := box5 (below_undrew hb1))
          | (go_at_call 53; refine (HKS.out _ (by first | exact below_box (below_undrew hb1) | exact below_drewN (below_box (below_undrew hb1)) _ | exact (below_box (below_undrew hb1)).drew)).mono ?_; rintro e w2 ⟨rfl, hb2⟩)))
        | fail
       all_goals
        have hbw : Below wr.heap.size wr w2 := (below_box (below_undrew hb1)).trans (hb2.mono (below_box (below_undrew hb1)).size)
        have HBW := Lib.hid hbw
        have HBASE := Lib.hid (show w.heap.size ≤ w2.heap.size from Nat.le_trans HB.out.size hbw.size)
        have HO2 := Lib.hid (below_row (own_front HO.out hfs) hbw)
        have HST2 := Lib.hid (show st.length ≤ 1048576 by have := HN.out; omega)
        clear hbw hb1 hb2
        go_wp2_with (at_builtin; go_loud (refine wpList_append_ints rfl (.tmp 45) (.tmp 47) 35 rfl .i64 w.heap.size 3 i0 8 Tryz.underlying35 hi hz0 hz1 hz2 _ f _ (by rfl) (HO2.out.alloc _) _ 1 1 [(k : Int)] (by rfl) (Rd.lit w2 3 (0, 0) [(k : Int)] (fun z hz => by rw [List.mem_singleton.1 hz]; exact WalkArith.wf_i64 (by omega))) (by have := HST2.out; have := HFS.out; have : maxLen = 9223372036854775807 := rfl; omega) (by have := HST2.out; have := HFS.out; omega) (le_alloc HBASE.out) ?_; intro v3 w3 hown3 hgr3))
        go_roundw
        case rel => exact ⟨k + 1, st.take f ++ [k], by omega, by go_num, HG2, land_own HFS.out hown3, (((HB.out.trans (HBW.out.mono HB.out.size)).alloc HBASE.out _).grown hgr3 (le_alloc HBASE.out) (fun z hz => (HO2.out.lt z hz).1))⟩
        case measure => simp [intOf]; omega
    ·rw [decide_eq_false hke] at HEQ
     have HM2 := Lib.hid (HSTOP.out fun ⟨_, h2, _, _⟩ => hke h2)
     clear hke
     go_wp2_with (first | (go_at_call 50; refine (HKC.out _).mono ?_; rintro e w' ⟨rfl, rfl⟩))
     go_quiet ((go_at_call 51; exact quiet_more ⟨_, rfl⟩ (HEQ.out _ (by first | exact (Below.refl _ _).alloc (Nat.le_refl _) _ | exact ((Below.refl _ _).alloc (Nat.le_refl _) _).drew | exact below_drewN ((Below.refl _ _).alloc (Nat.le_refl _) _) _))))
     go_wp2
     go_ret
     exact ⟨by rw [HM2.out]; rfl, below_drewN (HB.out.alloc HB.out.size _) _⟩
   ·have HM2 := Lib.hid (HSTOP.out fun ⟨h1, _⟩ => hqs h1)
    have hlt : decide ((st.length : Int) - (q : Int) < 0) = true := decide_eq_true (by omega)
    clear hqs
    go_wp2_with (first | (go_at_call 50; refine (HKC.out _).mono ?_; rintro e w' ⟨rfl, rfl⟩))
    go_quiet (fail)
    go_wp2
    go_ret
    exact ⟨by rw [HM2.out]; rfl, below_drewN (HB.out.alloc HB.out.size _) _⟩
  ·have hge : decide ((k : Int) < (n : Int)) = false := by simp; omega
   have e : k = n := by omega
   have HR := Lib.hid (show mayL l = decide (st.length = 1) from may_end (by rw [HL.out, ← e]; exact HU.out))
   clear e
   go_wp2
   go_ret
   exact ⟨by rw [HR.out, ← len_one]; rfl, HB.out⟩
end Go.Proofs.YtdbgaccnejffpaaGreatDoor.Tree

namespace Go.Proofs.YtdbgaccnejffpaaGreatDoor.Tree
open Go.RowKit Go.Proofs.YtdbgaccnejffpaaGreatDoor.Ints
end Go.Proofs.YtdbgaccnejffpaaGreatDoor.Tree

namespace Go.Proofs.YtdbgaccnejffpaaGreatDoor.Tree
open Go.RowKit Go.Proofs.YtdbgaccnejffpaaGreatDoor.Ints
end Go.Proofs.YtdbgaccnejffpaaGreatDoor.Tree

namespace Go.Proofs.YtdbgaccnejffpaaGreatDoor.Tree
open Go.RowKit Go.Proofs.YtdbgaccnejffpaaGreatDoor.Ints
end Go.Proofs.YtdbgaccnejffpaaGreatDoor.Tree
