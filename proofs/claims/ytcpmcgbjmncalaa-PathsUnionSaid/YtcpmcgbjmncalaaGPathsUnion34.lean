/-
  The landed Reach's rounds, one after the other (stage 14). By an AI agent.
-/
import Derived.Test.YtcpmcgbjmncalaaGPathsUnion33
namespace Go.Proofs.Ytcpmcgbjmncalaa.Paths
open Go.RowKit Go.Shelf Go.Proofs.Ytcpmcgbjmncalaa.Ints Go.Proofs.Ytcpmcgbjmncalaa.Mem Go.Proofs.Ytcpmcgbjmncalaa.Src Go.Proofs.Ytcpmcgbjmncalaa.Tree Go.Proofs.Ytcpmcgbjmncalaa.BitsWalks Go.Proofs.Ytcpmcgbjmncalaa.RdW Go.Proofs.Ytcpmcgbjmncalaa.Words Go.Proofs.Ytcpmcgbjmncalaa.Round

attribute [local go_sem] Oper.semAt_some wide_fn wide_depth

/-- What is known behind some rounds: the goals, the rows. -/
def runR (st sp : List Ed) (vs : Nat → List Nat) {nv : Nat} (is : List (Ix nv)) : (Nat → Nat) × (Nat → Nat → Bool) :=
  is.foldl (fun s i => (pointG st sp vs i.1 s.1, fun a => if a = i.1 then (fun j => hasI [pointG st sp vs i.1 s.1 0] ((j : Nat) : Int)) else s.2 a)) (fun _ => 0, fun _ _ => false)
theorem runR_snoc (st sp : List Ed) (vs : Nat → List Nat) {nv : Nat} (is : List (Ix nv)) (i : Ix nv) : runR st sp vs (is ++ [i]) = (pointG st sp vs i.1 (runR st sp vs is).1, fun a => if a = i.1 then (fun j => hasI [pointG st sp vs i.1 (runR st sp vs is).1 0] ((j : Nat) : Int)) else (runR st sp vs is).2 a) := by
  unfold runR
  rw [List.foldl_append]
  rfl
theorem runR_goals (st sp : List Ed) (vs : Nat → List Nat) {nv : Nat} : ∀ (k : Nat) (is : List (Ix nv)), is.length = k → (runR st sp vs is).1 = goalsF st sp vs is := by
  intro k
  induction k with
  | zero =>
    intro is h
    rw [List.eq_nil_of_length_eq_zero h]
    rfl
  | succ k ih =>
    intro is h
    obtain ⟨ys, y, rfl⟩ : ∃ ys y, is = ys ++ [y] := by
      have hne : is ≠ [] := fun e => by rw [e] at h; cases h
      exact ⟨is.dropLast, is.getLast hne, (List.dropLast_concat_getLast hne).symm⟩
    rw [runR_snoc, goalsF_snoc]
    show pointG st sp vs y.1 (runR st sp vs ys).1 = _
    rw [ih ys (by rw [List.length_append] at h; simpa using h)]
def rowF (st sp : List Ed) (vs : Nat → List Nat) {nv : Nat} (is : List (Ix nv)) : Nat → Nat → Bool := (runR st sp vs is).2
theorem rowF_snoc (st sp : List Ed) (vs : Nat → List Nat) {nv : Nat} (is : List (Ix nv)) (i : Ix nv) : rowF st sp vs (is ++ [i]) = fun a => if a = i.1 then (fun j => hasI [pointG st sp vs i.1 (goalsF st sp vs is) 0] ((j : Nat) : Int)) else rowF st sp vs is a := by
  unfold rowF
  rw [runR_snoc, runR_goals st sp vs _ is rfl]
theorem rowF_dn (st sp : List Ed) (vs : Nat → List Nat) {nv : Nat} : ∀ k, k ≤ nv → ∀ a, a < nv → nv - k ≤ a → ∀ j, rowF st sp vs (dn nv k) a j = hasI [goalsF st sp vs (dn nv (nv - a)) 0] ((j : Nat) : Int) := by
  intro k
  induction k with
  | zero => intro _ a ha h; omega
  | succ k ih =>
    intro hk a ha h j
    have hx : nv - 1 - k < nv := by omega
    rw [dn_succ hx, rowF_snoc]
    by_cases e : a = nv - 1 - k
    · dsimp only
      rw [if_pos e, show nv - a = k + 1 by omega, dn_succ hx, goalsF_snoc]
    · dsimp only
      rw [if_neg e]
      exact ih (by omega) a ha (by omega) j
def doneF {nv : Nat} (is : List (Ix nv)) (a : Nat) : Bool := is.any fun i => a == i.1
theorem doneF_snoc {nv : Nat} (is : List (Ix nv)) (i : Ix nv) : doneF (is ++ [i]) = fun a => doneF is a || a == i.1 := by
  funext a
  unfold doneF
  rw [List.any_append, List.any_cons, List.any_nil, Bool.or_false]
theorem doneF_dn {nv : Nat} : ∀ k, k ≤ nv → ∀ a, a < nv → nv - k ≤ a → doneF (dn nv k) a = true := by
  intro k
  induction k with
  | zero => intro _ a ha h; omega
  | succ k ih =>
    intro hk a ha h
    have hx : nv - 1 - k < nv := by omega
    rw [dn_succ hx, doneF_snoc]
    show (doneF (dn nv k) a || a == nv - 1 - k) = true
    by_cases e : a = nv - 1 - k
    · rw [Bool.or_eq_true]
      exact .inr (beq_iff_eq.2 e)
    · rw [ih (by omega) a ha (by omega), Bool.true_or]
theorem row_noncell {W W' : World} {row : Option Nat} {lo : Nat} {e : TypeId} {k n : Nat} {v : Value} {xs : List Value} (h : W.ownsRow lo e k v n xs) (hg : W.grownBy W' row) (hr : ∀ r, row = some r → ∃ o : Obj, W.heap[r]? = some o ∧ o.isCells = false) : W'.ownsRow lo e k v n xs := by
  refine h.kept hg ?_
  rcases h.2 with ⟨rfl, -⟩ | ⟨g, c, cur, rfl, -, hq, -⟩
  · exact .inl rfl
  · refine .inr fun e1 => ?_
    obtain ⟨o, ho, hc⟩ := hr g e1.symm
    rw [hq] at ho
    injection ho with ho
    rw [← ho] at hc
    cases hc
theorem boxed_noncell {W W' : World} {row : Option Nat} {B : Nat} {t : TypeId} {v : Value} (h : Boxed W B t v) (hg : W.grownBy W' row) (hr : ∀ r, row = some r → ∃ o : Obj, W.heap[r]? = some o ∧ o.isCells = false) : Boxed W' B t v :=
  h.kept hg (fun e => by
    obtain ⟨o, ho, hc⟩ := hr B e.symm
    rw [show W.heap[B]? = _ from h] at ho
    injection ho with ho
    rw [← ho] at hc
    cases hc)
/-- The state between two rounds. -/
structure RSt (W0 W : World) (lo lo3 np wn nv X7 X8 B1 B2 BR : Nat) (R1 R2 : Nat → Nat) (G : Nat → Nat) (done : Nat → Bool) (F : Nat → Nat → Bool) (Bg Bl : Nat) (Rg Rl f rb : Nat → Nat) : Prop where
  alt : (Bg = B1 ∧ Rg = R1 ∧ Bl = B2 ∧ Rl = R2) ∨ (Bg = B2 ∧ Rg = R2 ∧ Bl = B1 ∧ Rl = R1)
  x7 : Boxed W X7 30 (.slice (some ⟨Bg, 0, none⟩) np np)
  x8 : Boxed W X8 30 (.slice (some ⟨Bl, 0, none⟩) np np)
  sg : Sets W lo Bg Rg np wn G
  sl : Sets W lo Bl Rl np wn f
  rows : RowsT W lo3 BR nv done rb F
  left : Left (fun k => k = X7 ∨ k = X8 ∨ k = BR ∨ InRows R1 np k ∨ InRows R2 np k) W0 W
theorem RSt.own {W0 W W' : World} {lo lo3 np wn nv X7 X8 B1 B2 BR : Nat} {R1 R2 : Nat → Nat} {G : Nat → Nat} {done : Nat → Bool} {F : Nat → Nat → Bool} {Bg Bl : Nat} {Rg Rl f rb : Nat → Nat} (h : RSt W0 W lo lo3 np wn nv X7 X8 B1 B2 BR R1 R2 G done F Bg Bl Rg Rl f rb) {row : Option Nat}
    (hg : W.grownBy W' row) (hr : ∀ r, row = some r → W0.heap.size ≤ r ∧ ∃ o : Obj, W.heap[r]? = some o ∧ o.isCells = false) : RSt W0 W' lo lo3 np wn nv X7 X8 B1 B2 BR R1 R2 G done F Bg Bl Rg Rl f rb := by
  have hr' : ∀ r, row = some r → ∃ o : Obj, W.heap[r]? = some o ∧ o.isCells = false := fun r e => (hr r e).2
  exact ⟨h.alt, boxed_noncell h.x7 hg hr', boxed_noncell h.x8 hg hr', ⟨row_noncell h.sg.out hg hr', fun i hi => row_noncell (h.sg.row i hi) hg hr', h.sg.off, h.sg.wd⟩, ⟨row_noncell h.sl.out hg hr', fun i hi => row_noncell (h.sl.row i hi) hg hr', h.sl.off, h.sl.wd⟩,
    ⟨row_noncell h.rows.out hg hr', fun a ha hd => row_noncell (h.rows.row a ha hd) hg hr', h.rows.off⟩, Left.own () W W' row h.left hg hr⟩
set_option maxHeartbeats 16000000 in
set_option maxRecDepth 100000 in
theorem reach_range (A V : Option Addr) (n c nv cv np nt wn b3 b5 b6 bB gp BR X7 X8 B1 B2 lo lo1 lo3 Lo : Nat) (v22 v26 sv pv : Value) (R1 R2 rb0 : Nat → Nat) (st sp : List Ed) (vs : Nat → List Nat) (Fv : Nat → Option Addr × Nat × Nat) (ds : List Deferred) (W0 : World) (Q : Exit → Act → World → Prop) (C : Code)
    (hC : C = cBlock (cSnd (cFst (cSnd (cSnd (cSnd (cSnd (cSnd (Try.f17.body.getD .skip)))))))))
    (hnv : nv ≤ 64) (hwn : 0 < nv → wn = 1) (hnp : 2 ≤ np ∧ np ≤ 2000000) (hG : GMem W0 lo1 gp sv pv np nt st sp) (hT : Two W0 lo np wn X7 X8 B1 B2 R1 R2)
    (h3 : W0.cell? ⟨b3, 0, none⟩ = some (.slice V nv cv)) (h5 : W0.cell? ⟨b5, 0, none⟩ = some (.pointer (some ⟨gp, 0, none⟩))) (h6 : W0.cell? ⟨b6, 0, none⟩ = some (.slice (some ⟨BR, 0, none⟩) nv nv)) (hbB : W0.cell? ⟨bB, 0, none⟩ = some (.slice V nv cv))
    (hgl : gp < Lo) (hsl : ∀ q, sv.ownBlock = some q → q < Lo) (hpl : ∀ q, pv.ownBlock = some q → q < Lo) (l3 : b3 < Lo) (l5 : b5 < Lo) (lR : Lo ≤ BR) (lR2 : BR < lo) (l6 : b6 < lo) (n6 : BR ≠ b6) (lL : Lo ≤ lo) (lB : ∀ k, (k = X7 ∨ k = X8 ∨ k = BR ∨ InRows R1 np k ∨ InRows R2 np k) → k ≠ bB)
    (hrows : RowsT W0 lo3 BR nv (fun _ => false) rb0 (fun _ _ => false)) (hlo3 : lo3 ≤ W0.heap.size)
    (hv : ∀ i, i < nv → ∃ b off, V = some ⟨b, off, none⟩ ∧ b < Lo ∧ W0.cell? ⟨b, off + i, none⟩ = some (.slice (Fv i).1 (Fv i).2.1 (Fv i).2.2) ∧ RdW W0 (Fv i).1 (Fv i).2.1 (vs i) ∧ ∀ a, (Fv i).1 = some a → 0 < (Fv i).2.1 → a.block < Lo)
    (hE : ∀ e ∈ st, (e.1 < np ∧ e.2.1 < np) ∧ e.2.2 ≤ 9223372036854775807) (hE2 : ∀ e ∈ sp, e.1 < np ∧ e.2.1 < np) (hst : st.length ≤ 100000000) (hsp : sp.length ≤ 2000000)
    (hdone : ∀ (D : Nat) (W : World) (rb : Nat → Nat), W0.heap.size ≤ D → RowsT W lo3 BR nv (doneF (dn nv nv)) rb (rowF st sp vs (dn nv nv)) → Left (fun k => k = X7 ∨ k = X8 ∨ k = BR ∨ InRows R1 np k ∨ InRows R2 np k) W0 W → W.heap[D]? = some (.deferred (some [])) →
      Q .normal { tmps := #[.slice A n c, .slice V nv cv, undef, .pointer (some ⟨b3, 0, none⟩), .slice none 0 0, .pointer (some ⟨b5, 0, none⟩), .pointer (some ⟨b6, 0, none⟩), .pointer (some ⟨X7, 0, none⟩), .pointer (some ⟨X8, 0, none⟩), undef, undef, .slice A n c, .bool true, .bool false, .slice A n c, .pointer (some ⟨gp, 0, none⟩), .slice V nv cv, .int .i64 (nv : Nat), .slice (some ⟨BR, 0, none⟩) nv nv, .pointer (some ⟨gp, 0, none⟩), .slice V nv cv, .int .i64 (nv : Nat), v22, .pointer (some ⟨gp, 0, none⟩), .slice V nv cv, .int .i64 (nv : Nat), v26, .slice V nv cv, .func (.func 47) #[] #[.pointer (some ⟨bB, 0, none⟩)], undef, undef, undef, undef, undef, undef, undef, undef, undef, undef, undef, undef, undef, undef, undef, undef, undef, undef, undef, undef, undef, undef, undef, undef, undef, undef, undef, undef, undef, undef, undef, undef, undef, undef], defers := { target := .collected D, args := #[] } :: ds } W) :
    C.wpIn Fence.wide 10 Try.prog Q { tmps := #[.slice A n c, .slice V nv cv, undef, .pointer (some ⟨b3, 0, none⟩), .slice none 0 0, .pointer (some ⟨b5, 0, none⟩), .pointer (some ⟨b6, 0, none⟩), .pointer (some ⟨X7, 0, none⟩), .pointer (some ⟨X8, 0, none⟩), undef, undef, .slice A n c, .bool true, .bool false, .slice A n c, .pointer (some ⟨gp, 0, none⟩), .slice V nv cv, .int .i64 (nv : Nat), .slice (some ⟨BR, 0, none⟩) nv nv, .pointer (some ⟨gp, 0, none⟩), .slice V nv cv, .int .i64 (nv : Nat), v22, .pointer (some ⟨gp, 0, none⟩), .slice V nv cv, .int .i64 (nv : Nat), v26, .slice V nv cv, .func (.func 47) #[] #[.pointer (some ⟨bB, 0, none⟩)], undef, undef, undef, undef, undef, undef, undef, undef, undef, undef, undef, undef, undef, undef, undef, undef, undef, undef, undef, undef, undef, undef, undef, undef, undef, undef, undef, undef, undef, undef, undef, undef, undef, undef], defers := ds } W0 := by
  have lt_of : ∀ {p : Addr} {v : Value}, W0.cell? p = some v → p.block < W0.heap.size := fun h => World.block_lt_of_cell? W0 _ h
  have hDlt : ∀ k, (k = X7 ∨ k = X8 ∨ k = BR ∨ InRows R1 np k ∨ InRows R2 np k) → Lo ≤ k ∧ k < W0.heap.size := fun k hk => by
    rcases hk with rfl | rfl | rfl | ⟨i, hi, rfl⟩ | ⟨i, hi, rfl⟩
    · exact ⟨by have := hT.lo7; omega, hT.x7.lt⟩
    · exact ⟨by have := hT.lo8; omega, hT.x8.lt⟩
    · exact ⟨lR, (hrows.out.lt _ rfl).2⟩
    · have := hT.s1.lt.2 i hi
      exact ⟨by omega, this.2⟩
    · have := hT.s2.lt.2 i hi
      exact ⟨by omega, this.2⟩
  have hA : ∀ k, (k = bB ∨ ∃ b off, V = some ⟨b, off, none⟩ ∧ 0 < nv ∧ k = b) → k < W0.heap.size := fun k hk => by
    rcases hk with rfl | ⟨b, off, e, h0, rfl⟩
    · exact lt_of hbB
    · obtain ⟨b', off', e', -, hc, -⟩ := hv 0 h0
      rw [e] at e'
      injection e' with e'
      injection e' with e1 _ _
      have : b' < W0.heap.size := lt_of hc
      omega
  have hAD : ∀ k, (k = bB ∨ ∃ b off, V = some ⟨b, off, none⟩ ∧ 0 < nv ∧ k = b) → ¬ (k = X7 ∨ k = X8 ∨ k = BR ∨ InRows R1 np k ∨ InRows R2 np k) := fun k hk hd => by
    rcases hk with rfl | ⟨b, off, e, h0, rfl⟩
    · exact lB _ hd rfl
    · obtain ⟨b', off', e', hb', -⟩ := hv 0 h0
      rw [e] at e'
      injection e' with e'
      injection e' with e1 _ _
      have := (hDlt _ hd).1
      omega
  have hseq := backV_stops 9 (by omega) bB V nv cv (fun i => .slice (Fv i).1 (Fv i).2.1 (Fv i).2.2) (fun k => k = bB ∨ ∃ b off, V = some ⟨b, off, none⟩ ∧ 0 < nv ∧ k = b) W0 (.inl rfl) hA (by omega) hbB (fun W hW i hi => by
    obtain ⟨b, off, e, -, hc, -⟩ := hv i hi
    exact ⟨b, off, e, (World.cell?_of_block (w := W0) (a := ⟨b, off + i, none⟩) (hW b (.inr ⟨b, off, e, by omega, rfl⟩))).trans hc⟩)
  simp only [Try.f17, Option.getD_some, cFst, cSnd, cBlock] at hC
  subst hC
  refine wpIn_rangeFunc_ownG (gf := 47) (lb := #[.pointer (some ⟨bB, 0, none⟩)]) rfl (by omega) rfl trivial (enters_of Try.func47 (by kernel_rfl) rfl) hseq
    (fun h k => KpA.trans h k) (kpA_b hA) (Below.refl _ _) (fun _ => rfl)
    (fun pre W => ∃ Bg Bl Rg Rl f rb, RSt W0 W lo lo3 np wn nv X7 X8 B1 B2 BR R1 R2 (goalsF st sp vs pre) (doneF pre) (rowF st sp vs pre) Bg Bl Rg Rl f rb) (fun _ _ _ => False)
    (fun pre W W' row ⟨Bg, Bl, Rg, Rl, f, rb, h⟩ hg hr => ⟨Bg, Bl, Rg, Rl, f, rb, h.own hg hr⟩) (fun _ _ _ _ _ h _ _ => h)
    ⟨B1, B2, R1, R2, _, rb0, .inl ⟨rfl, rfl, rfl, rfl⟩, hT.x7, hT.x8, hT.s1, hT.s2, hrows, Left.refl _ _⟩
    (fun x => { tmps := #[.slice A n c, .slice V nv cv, undef, .pointer (some ⟨b3, 0, none⟩), .slice none 0 0, .pointer (some ⟨b5, 0, none⟩), .pointer (some ⟨b6, 0, none⟩), .pointer (some ⟨X7, 0, none⟩), .pointer (some ⟨X8, 0, none⟩), .int .i64 ((x.1 : Nat) : Int), .slice (Fv x.1).1 (Fv x.1).2.1 (Fv x.1).2.2, .slice A n c, .bool true, .bool false, .slice A n c, .pointer (some ⟨gp, 0, none⟩), .slice V nv cv, .int .i64 (nv : Nat), .slice (some ⟨BR, 0, none⟩) nv nv, .pointer (some ⟨gp, 0, none⟩), .slice V nv cv, .int .i64 (nv : Nat), v22, .pointer (some ⟨gp, 0, none⟩), .slice V nv cv, .int .i64 (nv : Nat), v26, .slice V nv cv, .func (.func 47) #[] #[.pointer (some ⟨bB, 0, none⟩)], .int .i64 ((x.1 : Nat) : Int), .slice (Fv x.1).1 (Fv x.1).2.1 (Fv x.1).2.2, undef, undef, undef, undef, undef, undef, undef, undef, undef, undef, undef, undef, undef, undef, undef, undef, undef, undef, undef, undef, undef, undef, undef, undef, undef, undef, undef, undef, undef, undef, undef, undef], defers := [] })
    ?assign ?body ?done ?stop
  case assign =>
    intro l x W K' hK
    gi_wp2
    exact hK
  case body =>
    rintro l pre x W ⟨Bg, Bl, Rg, Rl, f, rb, h⟩ hlen
    have hnv0 : 0 < nv := by have := x.2; omega
    obtain rfl := hwn hnv0
    obtain ⟨b, off, eV, hbL, hc, hrd, hkl⟩ := hv x.1 x.2
    have hbw : Below Lo W0 W := h.left.below (fun k hk => (hDlt k hk).1) (by have := hT.lo7; have := hT.x7.lt; omega)
    have hap : ∀ i j, i < np → j < np → Rl i ≠ Rg j := fun i j hi hj => by
      rcases h.alt with ⟨-, rfl, -, rfl⟩ | ⟨-, rfl, -, rfl⟩
      · exact fun e => hT.ap.2 j i hj hi e.symm
      · exact hT.ap.2 i j hi hj
    have hin : ∀ k, InRows Rl np k → InRows R1 np k ∨ InRows R2 np k := fun k hk => by
      rcases h.alt with ⟨-, rfl, -, rfl⟩ | ⟨-, rfl, -, rfl⟩
      · exact .inr hk
      · exact .inl hk
    have h6W : W.cell? ⟨b6, 0, none⟩ = some (.slice (some ⟨BR, 0, none⟩) nv nv) := (World.cell?_of_block (w := W0) (a := ⟨b6, 0, none⟩) (h.left.block b6 (lt_of h6) (fun hd => by
      rcases hd with e | e | e | ⟨i, hi, e⟩ | ⟨i, hi, e⟩
      · have := hT.lo7; omega
      · have := hT.lo8; omega
      · exact n6 e.symm
      · have := (hT.s1.lt.2 i hi).1; omega
      · have := (hT.s2.lt.2 i hi).1; omega))).trans h6
    refine wpIn_mono (reach_body A V (Fv x.1).1 n c nv cv np nt b3 b5 b6 gp BR X7 X8 Bg Bl lo lo1 lo3 (Fv x.1).2.1 (Fv x.1).2.2 x.1 l v22 v26 _ sv pv Rg Rl _ f rb st sp vs (doneF pre) (rowF st sp vs pre) W _ rfl x.2 hnv hnp (hG.low hbw hgl hsl hpl) h.sg h.sl hap h.x7 h.x8 hT.xx hT.lo7 hT.lo8
      ((hbw.cell (p := ⟨b3, 0, none⟩) l3).trans h3) ((hbw.cell (p := ⟨b5, 0, none⟩) l5).trans h5) h6W (by omega) (fun q e => by have := hsl q e; omega) (fun q e => by have := hpl q e; omega) (by omega) (by omega) l6 lR2 (by omega) n6 h.rows (rdW_low hrd hbw hkl) (fun a e h0 => by have := hkl a e h0; omega) hE hE2 hst hsp (by have := h.left.size; omega)
      (fun _ W' => ownPostG W0.heap.size (KpA fun k => k = bB ∨ ∃ b off, V = some ⟨b, off, none⟩ ∧ 0 < nv ∧ k = b) (fun pre W => ∃ Bg Bl Rg Rl f rb, RSt W0 W lo lo3 np 1 nv X7 X8 B1 B2 BR R1 R2 (goalsF st sp vs pre) (doneF pre) (rowF st sp vs pre) Bg Bl Rg Rl f rb) (fun _ _ _ => False) (pre ++ [x]) W .normal { tmps := #[], defers := [] } W')
      (fun a W' B y7 y8 sl' sg' rows' hL => ?_)) ?_
    · have hL2 : Left (fun k => k = X7 ∨ k = X8 ∨ k = BR ∨ InRows R1 np k ∨ InRows R2 np k) W W' := hL.more (fun k hk => hk.imp id (fun hk => hk.imp id (fun hk => hk.imp id (hin k))))
      refine ⟨keeps_left hL2 (fun k hk => (hDlt k hk).2), kpA_left hL2 (fun k hk => ⟨Nat.lt_of_lt_of_le (hA k hk) h.left.size, hAD k hk⟩), Bl, Bg, Rl, Rg, goalsF st sp vs pre, (fun a => if a = x.1 then B else rb a), ?_, y7, y8, ?_, sg', ?_, h.left.trans hL2⟩
      · rcases h.alt with ⟨e1, e2, e3, e4⟩ | ⟨e1, e2, e3, e4⟩
        · exact .inr ⟨e3, e4, e1, e2⟩
        · exact .inl ⟨e3, e4, e1, e2⟩
      · rw [goalsF_snoc]
        exact sl'
      · rw [doneF_snoc, rowF_snoc]
        exact rows'
    · intro e a W' hp
      cases e with
      | normal => exact hp
      | ret => exact hp.elim
      | exit id => exact hp.elim
      | goto t => exact hp.elim
      | panic ch => exact hp.elim
      | outgrown => exact hp.elim
  case done =>
    rintro D ys W hD rfl ⟨Bg, Bl, Rg, Rl, f, rb, h⟩ hK
    exact hdone D W rb hD h.rows h.left hK
  case stop =>
    rintro D c pre W _ _ h _
    exact h.elim
end Go.Proofs.Ytcpmcgbjmncalaa.Paths
