/-
  The landed Reach's rounds, one after the other (stage 14). By an AI agent.
  The walks of the landed ival's endless and May. By an AI agent.
  The walks of the landed lex's isLetter, isDigit, inWord, lead, isWord, isTaken and Name, for seats that hold Name without Lex. By an AI agent.
-/
import Derived.Test.YtcpmcgbjmncalaaGPathsParts28
import Derived.Test.YtcpmcgbjmncalaaGPathsParts6
import Derived.Shelf.Abstract
namespace Go.Proofs.Ytcpmcgbjmncalaa.Paths
open Go.RowKit Go.Shelf Go.Proofs.Ytcpmcgbjmncalaa.Ints Go.Proofs.Ytcpmcgbjmncalaa.Mem Go.Proofs.Ytcpmcgbjmncalaa.Src Go.Proofs.Ytcpmcgbjmncalaa.Tree Go.Proofs.Ytcpmcgbjmncalaa.BitsWalks Go.Proofs.Ytcpmcgbjmncalaa.RdW Go.Proofs.Ytcpmcgbjmncalaa.Words Go.Proofs.Ytcpmcgbjmncalaa.Round

attribute [local go_sem] Oper.semAt_some wide_fn wide_depth

/-- What is known behind some rounds: the goals, the rows. -/
def runR (st sp : List Ed) (vs : Nat → List Nat) {nv : Nat} (is : List (Ix nv)) : (Nat → Nat) × (Nat → Nat → Bool) :=
  is.foldl (fun s i => (pointG st sp vs i.1 s.1, fun a => if a = i.1 then (fun j => hasI [pointG st sp vs i.1 s.1 0] ((j : Nat) : Int)) else s.2 a)) (fun _ => 0, fun _ _ => false)
theorem runR_snoc (st sp : List Ed) (vs : Nat → List Nat) {nv : Nat} (is : List (Ix nv)) (i : Ix nv) : runR st sp vs (is ++ [i]) = (pointG st sp vs i.1 (runR st sp vs is).1, fun a => if a = i.1 then (fun j => hasI [pointG st sp vs i.1 (runR st sp vs is).1 0] ((j : Nat) : Int)) else (runR st sp vs is).2 a) := by
  unfold runR
  rw [List.foldl_append]
  rfl
theorem runR_goals (st sp : List Ed) (vs : Nat → List Nat) {nv : Nat} : ∀ (k : Nat) (is : List (Ix nv)), is.length = k → (runR st sp vs is).1 = goalsF st sp vs is := by
  intro k
  induction k with
  | zero =>
    intro is h
    rw [List.eq_nil_of_length_eq_zero h]
    rfl
  | succ k ih =>
    intro is h
    obtain ⟨ys, y, rfl⟩ : ∃ ys y, is = ys ++ [y] := by
      have hne : is ≠ [] := fun e => by rw [e] at h; cases h
      exact ⟨is.dropLast, is.getLast hne, (List.dropLast_concat_getLast hne).symm⟩
    rw [runR_snoc, goalsF_snoc]
    show pointG st sp vs y.1 (runR st sp vs ys).1 = _
    rw [ih ys (by rw [List.length_append] at h; simpa using h)]
def rowF (st sp : List Ed) (vs : Nat → List Nat) {nv : Nat} (is : List (Ix nv)) : Nat → Nat → Bool := (runR st sp vs is).2
theorem rowF_snoc (st sp : List Ed) (vs : Nat → List Nat) {nv : Nat} (is : List (Ix nv)) (i : Ix nv) : rowF st sp vs (is ++ [i]) = fun a => if a = i.1 then (fun j => hasI [pointG st sp vs i.1 (goalsF st sp vs is) 0] ((j : Nat) : Int)) else rowF st sp vs is a := by
  unfold rowF
  rw [runR_snoc, runR_goals st sp vs _ is rfl]
theorem rowF_dn (st sp : List Ed) (vs : Nat → List Nat) {nv : Nat} : ∀ k, k ≤ nv → ∀ a, a < nv → nv - k ≤ a → ∀ j, rowF st sp vs (dn nv k) a j = hasI [goalsF st sp vs (dn nv (nv - a)) 0] ((j : Nat) : Int) := by
  intro k
  induction k with
  | zero => intro _ a ha h; omega
  | succ k ih =>
    intro hk a ha h j
    have hx : nv - 1 - k < nv := by omega
    rw [dn_succ hx, rowF_snoc]
    by_cases e : a = nv - 1 - k
    · dsimp only
      rw [if_pos e, show nv - a = k + 1 by omega, dn_succ hx, goalsF_snoc]
    · dsimp only
      rw [if_neg e]
      exact ih (by omega) a ha (by omega) j
def doneF {nv : Nat} (is : List (Ix nv)) (a : Nat) : Bool := is.any fun i => a == i.1
theorem doneF_snoc {nv : Nat} (is : List (Ix nv)) (i : Ix nv) : doneF (is ++ [i]) = fun a => doneF is a || a == i.1 := by
  funext a
  unfold doneF
  rw [List.any_append, List.any_cons, List.any_nil, Bool.or_false]
theorem doneF_dn {nv : Nat} : ∀ k, k ≤ nv → ∀ a, a < nv → nv - k ≤ a → doneF (dn nv k) a = true := by
  intro k
  induction k with
  | zero => intro _ a ha h; omega
  | succ k ih =>
    intro hk a ha h
    have hx : nv - 1 - k < nv := by omega
    rw [dn_succ hx, doneF_snoc]
    show (doneF (dn nv k) a || a == nv - 1 - k) = true
    by_cases e : a = nv - 1 - k
    · rw [Bool.or_eq_true]
      exact .inr (beq_iff_eq.2 e)
    · rw [ih (by omega) a ha (by omega), Bool.true_or]
theorem row_noncell {W W' : World} {row : Option Nat} {lo : Nat} {e : TypeId} {k n : Nat} {v : Value} {xs : List Value} (h : W.ownsRow lo e k v n xs) (hg : W.grownBy W' row) (hr : ∀ r, row = some r → ∃ o : Obj, W.heap[r]? = some o ∧ o.isCells = false) : W'.ownsRow lo e k v n xs := by
  refine h.kept hg ?_
  rcases h.2 with ⟨rfl, -⟩ | ⟨g, c, cur, rfl, -, hq, -⟩
  · exact .inl rfl
  · refine .inr fun e1 => ?_
    obtain ⟨o, ho, hc⟩ := hr g e1.symm
    rw [hq] at ho
    injection ho with ho
    rw [← ho] at hc
    cases hc
theorem boxed_noncell {W W' : World} {row : Option Nat} {B : Nat} {t : TypeId} {v : Value} (h : Boxed W B t v) (hg : W.grownBy W' row) (hr : ∀ r, row = some r → ∃ o : Obj, W.heap[r]? = some o ∧ o.isCells = false) : Boxed W' B t v :=
  h.kept hg (fun e => by
    obtain ⟨o, ho, hc⟩ := hr B e.symm
    rw [show W.heap[B]? = _ from h] at ho
    injection ho with ho
    rw [← ho] at hc
    cases hc)
/-- The state between two rounds. -/
structure RSt (W0 W : World) (lo lo3 np wn nv X7 X8 B1 B2 BR : Nat) (R1 R2 : Nat → Nat) (G : Nat → Nat) (done : Nat → Bool) (F : Nat → Nat → Bool) (Bg Bl : Nat) (Rg Rl f rb : Nat → Nat) : Prop where
  alt : (Bg = B1 ∧ Rg = R1 ∧ Bl = B2 ∧ Rl = R2) ∨ (Bg = B2 ∧ Rg = R2 ∧ Bl = B1 ∧ Rl = R1)
  x7 : Boxed W X7 30 (.slice (some ⟨Bg, 0, none⟩) np np)
  x8 : Boxed W X8 30 (.slice (some ⟨Bl, 0, none⟩) np np)
  sg : Sets W lo Bg Rg np wn G
  sl : Sets W lo Bl Rl np wn f
  rows : RowsT W lo3 BR nv done rb F
  left : Left (fun k => k = X7 ∨ k = X8 ∨ k = BR ∨ InRows R1 np k ∨ InRows R2 np k) W0 W
theorem RSt.own {W0 W W' : World} {lo lo3 np wn nv X7 X8 B1 B2 BR : Nat} {R1 R2 : Nat → Nat} {G : Nat → Nat} {done : Nat → Bool} {F : Nat → Nat → Bool} {Bg Bl : Nat} {Rg Rl f rb : Nat → Nat} (h : RSt W0 W lo lo3 np wn nv X7 X8 B1 B2 BR R1 R2 G done F Bg Bl Rg Rl f rb) {row : Option Nat}
    (hg : W.grownBy W' row) (hr : ∀ r, row = some r → W0.heap.size ≤ r ∧ ∃ o : Obj, W.heap[r]? = some o ∧ o.isCells = false) : RSt W0 W' lo lo3 np wn nv X7 X8 B1 B2 BR R1 R2 G done F Bg Bl Rg Rl f rb := by
  have hr' : ∀ r, row = some r → ∃ o : Obj, W.heap[r]? = some o ∧ o.isCells = false := fun r e => (hr r e).2
  exact ⟨h.alt, boxed_noncell h.x7 hg hr', boxed_noncell h.x8 hg hr', ⟨row_noncell h.sg.out hg hr', fun i hi => row_noncell (h.sg.row i hi) hg hr', h.sg.off, h.sg.wd⟩, ⟨row_noncell h.sl.out hg hr', fun i hi => row_noncell (h.sl.row i hi) hg hr', h.sl.off, h.sl.wd⟩,
    ⟨row_noncell h.rows.out hg hr', fun a ha hd => row_noncell (h.rows.row a ha hd) hg hr', h.rows.off⟩, Left.own () W W' row h.left hg hr⟩
set_option maxHeartbeats 16000000 in
set_option maxRecDepth 100000 in
theorem reach_range (A V : Option Addr) (n c nv cv np nt wn b3 b5 b6 bB gp BR X7 X8 B1 B2 lo lo1 lo3 Lo : Nat) (v22 v26 sv pv : Value) (R1 R2 rb0 : Nat → Nat) (st sp : List Ed) (vs : Nat → List Nat) (Fv : Nat → Option Addr × Nat × Nat) (ds : List Deferred) (W0 : World) (Q : Exit → Act → World → Prop) (C : Code)
    (hC : C = cBlock (cSnd (cFst (cSnd (cSnd (cSnd (cSnd (cSnd (Try.f17.body.getD .skip)))))))))
    (hnv : nv ≤ 64) (hwn : 0 < nv → wn = 1) (hnp : 2 ≤ np ∧ np ≤ 2000000) (hG : GMem W0 lo1 gp sv pv np nt st sp) (hT : Two W0 lo np wn X7 X8 B1 B2 R1 R2)
    (h3 : W0.cell? ⟨b3, 0, none⟩ = some (.slice V nv cv)) (h5 : W0.cell? ⟨b5, 0, none⟩ = some (.pointer (some ⟨gp, 0, none⟩))) (h6 : W0.cell? ⟨b6, 0, none⟩ = some (.slice (some ⟨BR, 0, none⟩) nv nv)) (hbB : W0.cell? ⟨bB, 0, none⟩ = some (.slice V nv cv))
    (hgl : gp < Lo) (hsl : ∀ q, sv.ownBlock = some q → q < Lo) (hpl : ∀ q, pv.ownBlock = some q → q < Lo) (l3 : b3 < Lo) (l5 : b5 < Lo) (lR : Lo ≤ BR) (lR2 : BR < lo) (l6 : b6 < lo) (n6 : BR ≠ b6) (lL : Lo ≤ lo) (lB : ∀ k, (k = X7 ∨ k = X8 ∨ k = BR ∨ InRows R1 np k ∨ InRows R2 np k) → k ≠ bB)
    (hrows : RowsT W0 lo3 BR nv (fun _ => false) rb0 (fun _ _ => false)) (hlo3 : lo3 ≤ W0.heap.size)
    (hv : ∀ i, i < nv → ∃ b off, V = some ⟨b, off, none⟩ ∧ b < Lo ∧ W0.cell? ⟨b, off + i, none⟩ = some (.slice (Fv i).1 (Fv i).2.1 (Fv i).2.2) ∧ RdW W0 (Fv i).1 (Fv i).2.1 (vs i) ∧ ∀ a, (Fv i).1 = some a → 0 < (Fv i).2.1 → a.block < Lo)
    (hE : ∀ e ∈ st, (e.1 < np ∧ e.2.1 < np) ∧ e.2.2 ≤ 9223372036854775807) (hE2 : ∀ e ∈ sp, e.1 < np ∧ e.2.1 < np) (hst : st.length ≤ 100000000) (hsp : sp.length ≤ 2000000)
    (hdone : ∀ (D : Nat) (W : World) (rb : Nat → Nat), W0.heap.size ≤ D → RowsT W lo3 BR nv (doneF (dn nv nv)) rb (rowF st sp vs (dn nv nv)) → Left (fun k => k = X7 ∨ k = X8 ∨ k = BR ∨ InRows R1 np k ∨ InRows R2 np k) W0 W → W.heap[D]? = some (.deferred (some [])) →
      Q .normal { tmps := #[.slice A n c, .slice V nv cv, undef, .pointer (some ⟨b3, 0, none⟩), .slice none 0 0, .pointer (some ⟨b5, 0, none⟩), .pointer (some ⟨b6, 0, none⟩), .pointer (some ⟨X7, 0, none⟩), .pointer (some ⟨X8, 0, none⟩), undef, undef, .slice A n c, .bool true, .bool false, .slice A n c, .pointer (some ⟨gp, 0, none⟩), .slice V nv cv, .int .i64 (nv : Nat), .slice (some ⟨BR, 0, none⟩) nv nv, .pointer (some ⟨gp, 0, none⟩), .slice V nv cv, .int .i64 (nv : Nat), v22, .pointer (some ⟨gp, 0, none⟩), .slice V nv cv, .int .i64 (nv : Nat), v26, .slice V nv cv, .func (.func 47) #[] #[.pointer (some ⟨bB, 0, none⟩)], undef, undef, undef, undef, undef, undef, undef, undef, undef, undef, undef, undef, undef, undef, undef, undef, undef, undef, undef, undef, undef, undef, undef, undef, undef, undef, undef, undef, undef, undef, undef, undef, undef, undef], defers := { target := .collected D, args := #[] } :: ds } W) :
    C.wpIn Fence.wide 10 Try.prog Q { tmps := #[.slice A n c, .slice V nv cv, undef, .pointer (some ⟨b3, 0, none⟩), .slice none 0 0, .pointer (some ⟨b5, 0, none⟩), .pointer (some ⟨b6, 0, none⟩), .pointer (some ⟨X7, 0, none⟩), .pointer (some ⟨X8, 0, none⟩), undef, undef, .slice A n c, .bool true, .bool false, .slice A n c, .pointer (some ⟨gp, 0, none⟩), .slice V nv cv, .int .i64 (nv : Nat), .slice (some ⟨BR, 0, none⟩) nv nv, .pointer (some ⟨gp, 0, none⟩), .slice V nv cv, .int .i64 (nv : Nat), v22, .pointer (some ⟨gp, 0, none⟩), .slice V nv cv, .int .i64 (nv : Nat), v26, .slice V nv cv, .func (.func 47) #[] #[.pointer (some ⟨bB, 0, none⟩)], undef, undef, undef, undef, undef, undef, undef, undef, undef, undef, undef, undef, undef, undef, undef, undef, undef, undef, undef, undef, undef, undef, undef, undef, undef, undef, undef, undef, undef, undef, undef, undef, undef, undef], defers := ds } W0 := by
  have lt_of : ∀ {p : Addr} {v : Value}, W0.cell? p = some v → p.block < W0.heap.size := fun h => World.block_lt_of_cell? W0 _ h
  have hDlt : ∀ k, (k = X7 ∨ k = X8 ∨ k = BR ∨ InRows R1 np k ∨ InRows R2 np k) → Lo ≤ k ∧ k < W0.heap.size := fun k hk => by
    rcases hk with rfl | rfl | rfl | ⟨i, hi, rfl⟩ | ⟨i, hi, rfl⟩
    · exact ⟨by have := hT.lo7; omega, hT.x7.lt⟩
    · exact ⟨by have := hT.lo8; omega, hT.x8.lt⟩
    · exact ⟨lR, (hrows.out.lt _ rfl).2⟩
    · have := hT.s1.lt.2 i hi
      exact ⟨by omega, this.2⟩
    · have := hT.s2.lt.2 i hi
      exact ⟨by omega, this.2⟩
  have hA : ∀ k, (k = bB ∨ ∃ b off, V = some ⟨b, off, none⟩ ∧ 0 < nv ∧ k = b) → k < W0.heap.size := fun k hk => by
    rcases hk with rfl | ⟨b, off, e, h0, rfl⟩
    · exact lt_of hbB
    · obtain ⟨b', off', e', -, hc, -⟩ := hv 0 h0
      rw [e] at e'
      injection e' with e'
      injection e' with e1 _ _
      have : b' < W0.heap.size := lt_of hc
      omega
  have hAD : ∀ k, (k = bB ∨ ∃ b off, V = some ⟨b, off, none⟩ ∧ 0 < nv ∧ k = b) → ¬ (k = X7 ∨ k = X8 ∨ k = BR ∨ InRows R1 np k ∨ InRows R2 np k) := fun k hk hd => by
    rcases hk with rfl | ⟨b, off, e, h0, rfl⟩
    · exact lB _ hd rfl
    · obtain ⟨b', off', e', hb', -⟩ := hv 0 h0
      rw [e] at e'
      injection e' with e'
      injection e' with e1 _ _
      have := (hDlt _ hd).1
      omega
  have hseq := backV_stops 9 (by omega) bB V nv cv (fun i => .slice (Fv i).1 (Fv i).2.1 (Fv i).2.2) (fun k => k = bB ∨ ∃ b off, V = some ⟨b, off, none⟩ ∧ 0 < nv ∧ k = b) W0 (.inl rfl) hA (by omega) hbB (fun W hW i hi => by
    obtain ⟨b, off, e, -, hc, -⟩ := hv i hi
    exact ⟨b, off, e, (World.cell?_of_block (w := W0) (a := ⟨b, off + i, none⟩) (hW b (.inr ⟨b, off, e, by omega, rfl⟩))).trans hc⟩)
  simp only [Try.f17, Option.getD_some, cFst, cSnd, cBlock] at hC
  subst hC
  refine wpIn_rangeFunc_ownG (gf := 47) (lb := #[.pointer (some ⟨bB, 0, none⟩)]) rfl (by omega) rfl trivial (enters_of Try.func47 (by kernel_rfl) rfl) hseq
    (fun h k => KpA.trans h k) (kpA_b hA) (Below.refl _ _) (fun _ => rfl)
    (fun pre W => ∃ Bg Bl Rg Rl f rb, RSt W0 W lo lo3 np wn nv X7 X8 B1 B2 BR R1 R2 (goalsF st sp vs pre) (doneF pre) (rowF st sp vs pre) Bg Bl Rg Rl f rb) (fun _ _ _ => False)
    (fun pre W W' row ⟨Bg, Bl, Rg, Rl, f, rb, h⟩ hg hr => ⟨Bg, Bl, Rg, Rl, f, rb, h.own hg hr⟩) (fun _ _ _ _ _ h _ _ => h)
    ⟨B1, B2, R1, R2, _, rb0, .inl ⟨rfl, rfl, rfl, rfl⟩, hT.x7, hT.x8, hT.s1, hT.s2, hrows, Left.refl _ _⟩
    (fun x => { tmps := #[.slice A n c, .slice V nv cv, undef, .pointer (some ⟨b3, 0, none⟩), .slice none 0 0, .pointer (some ⟨b5, 0, none⟩), .pointer (some ⟨b6, 0, none⟩), .pointer (some ⟨X7, 0, none⟩), .pointer (some ⟨X8, 0, none⟩), .int .i64 ((x.1 : Nat) : Int), .slice (Fv x.1).1 (Fv x.1).2.1 (Fv x.1).2.2, .slice A n c, .bool true, .bool false, .slice A n c, .pointer (some ⟨gp, 0, none⟩), .slice V nv cv, .int .i64 (nv : Nat), .slice (some ⟨BR, 0, none⟩) nv nv, .pointer (some ⟨gp, 0, none⟩), .slice V nv cv, .int .i64 (nv : Nat), v22, .pointer (some ⟨gp, 0, none⟩), .slice V nv cv, .int .i64 (nv : Nat), v26, .slice V nv cv, .func (.func 47) #[] #[.pointer (some ⟨bB, 0, none⟩)], .int .i64 ((x.1 : Nat) : Int), .slice (Fv x.1).1 (Fv x.1).2.1 (Fv x.1).2.2, undef, undef, undef, undef, undef, undef, undef, undef, undef, undef, undef, undef, undef, undef, undef, undef, undef, undef, undef, undef, undef, undef, undef, undef, undef, undef, undef, undef, undef, undef, undef, undef], defers := [] })
    ?assign ?body ?done ?stop
  case assign =>
    intro l x W K' hK
    gi_wp2
    exact hK
  case body =>
    rintro l pre x W ⟨Bg, Bl, Rg, Rl, f, rb, h⟩ hlen
    have hnv0 : 0 < nv := by have := x.2; omega
    obtain rfl := hwn hnv0
    obtain ⟨b, off, eV, hbL, hc, hrd, hkl⟩ := hv x.1 x.2
    have hbw : Below Lo W0 W := h.left.below (fun k hk => (hDlt k hk).1) (by have := hT.lo7; have := hT.x7.lt; omega)
    have hap : ∀ i j, i < np → j < np → Rl i ≠ Rg j := fun i j hi hj => by
      rcases h.alt with ⟨-, rfl, -, rfl⟩ | ⟨-, rfl, -, rfl⟩
      · exact fun e => hT.ap.2 j i hj hi e.symm
      · exact hT.ap.2 i j hi hj
    have hin : ∀ k, InRows Rl np k → InRows R1 np k ∨ InRows R2 np k := fun k hk => by
      rcases h.alt with ⟨-, rfl, -, rfl⟩ | ⟨-, rfl, -, rfl⟩
      · exact .inr hk
      · exact .inl hk
    have h6W : W.cell? ⟨b6, 0, none⟩ = some (.slice (some ⟨BR, 0, none⟩) nv nv) := (World.cell?_of_block (w := W0) (a := ⟨b6, 0, none⟩) (h.left.block b6 (lt_of h6) (fun hd => by
      rcases hd with e | e | e | ⟨i, hi, e⟩ | ⟨i, hi, e⟩
      · have := hT.lo7; omega
      · have := hT.lo8; omega
      · exact n6 e.symm
      · have := (hT.s1.lt.2 i hi).1; omega
      · have := (hT.s2.lt.2 i hi).1; omega))).trans h6
    refine wpIn_mono (reach_body A V (Fv x.1).1 n c nv cv np nt b3 b5 b6 gp BR X7 X8 Bg Bl lo lo1 lo3 (Fv x.1).2.1 (Fv x.1).2.2 x.1 l v22 v26 _ sv pv Rg Rl _ f rb st sp vs (doneF pre) (rowF st sp vs pre) W _ rfl x.2 hnv hnp (hG.low hbw hgl hsl hpl) h.sg h.sl hap h.x7 h.x8 hT.xx hT.lo7 hT.lo8
      ((hbw.cell (p := ⟨b3, 0, none⟩) l3).trans h3) ((hbw.cell (p := ⟨b5, 0, none⟩) l5).trans h5) h6W (by omega) (fun q e => by have := hsl q e; omega) (fun q e => by have := hpl q e; omega) (by omega) (by omega) l6 lR2 (by omega) n6 h.rows (rdW_low hrd hbw hkl) (fun a e h0 => by have := hkl a e h0; omega) hE hE2 hst hsp (by have := h.left.size; omega)
      (fun _ W' => ownPostG W0.heap.size (KpA fun k => k = bB ∨ ∃ b off, V = some ⟨b, off, none⟩ ∧ 0 < nv ∧ k = b) (fun pre W => ∃ Bg Bl Rg Rl f rb, RSt W0 W lo lo3 np 1 nv X7 X8 B1 B2 BR R1 R2 (goalsF st sp vs pre) (doneF pre) (rowF st sp vs pre) Bg Bl Rg Rl f rb) (fun _ _ _ => False) (pre ++ [x]) W .normal { tmps := #[], defers := [] } W')
      (fun a W' B y7 y8 sl' sg' rows' hL => ?_)) ?_
    · have hL2 : Left (fun k => k = X7 ∨ k = X8 ∨ k = BR ∨ InRows R1 np k ∨ InRows R2 np k) W W' := hL.more (fun k hk => hk.imp id (fun hk => hk.imp id (fun hk => hk.imp id (hin k))))
      refine ⟨keeps_left hL2 (fun k hk => (hDlt k hk).2), kpA_left hL2 (fun k hk => ⟨Nat.lt_of_lt_of_le (hA k hk) h.left.size, hAD k hk⟩), Bl, Bg, Rl, Rg, goalsF st sp vs pre, (fun a => if a = x.1 then B else rb a), ?_, y7, y8, ?_, sg', ?_, h.left.trans hL2⟩
      · rcases h.alt with ⟨e1, e2, e3, e4⟩ | ⟨e1, e2, e3, e4⟩
        · exact .inr ⟨e3, e4, e1, e2⟩
        · exact .inl ⟨e3, e4, e1, e2⟩
      · rw [goalsF_snoc]
        exact sl'
      · rw [doneF_snoc, rowF_snoc]
        exact rows'
    · intro e a W' hp
      cases e with
      | normal => exact hp
      | ret => exact hp.elim
      | exit id => exact hp.elim
      | goto t => exact hp.elim
      | panic ch => exact hp.elim
      | outgrown => exact hp.elim
  case done =>
    rintro D ys W hD rfl ⟨Bg, Bl, Rg, Rl, f, rb, h⟩ hK
    exact hdone D W rb hD h.rows h.left hK
  case stop =>
    rintro D c pre W _ _ h _
    exact h.elim
end Go.Proofs.Ytcpmcgbjmncalaa.Paths

namespace Go.Proofs.Ytcpmcgbjmncalaa.Ival
open Go.RowKit

theorem progEndless (lo hi : Int) (w : World) :
    Calls Try.prog 86 #[span lo hi] w fun e w' => e = .returned (.bool (hi == -1)) ∧ Below w.heap.size w w' := by
  go_enter Try.func86, Try.ntmps86
  go_wp2
  go_ret
  exact ⟨rfl, (Below.refl _ _).alloc (Nat.le_refl _) _⟩

theorem progMay (lo hi : Int) (w : World) :
    Calls Try.prog 82 #[span lo hi] w fun e w' => e = .returned (.bool (mayS lo hi)) ∧ Below w.heap.size w w' := by
  have he := fun W => progEndless lo hi W
  rcases may_cases lo hi with ⟨h1, h⟩ | ⟨h1, h2, h⟩ | ⟨h1, h2, h3, h⟩ | ⟨h1, h2, h3, h4, h⟩ | ⟨h1, h2, h3, h4, h5, h⟩ | ⟨h1, h2, h3, h4, h5, h⟩
  case' inr.inr.inl =>
    subst h3
    have h3 : ((-1 : Int) == -1) = true := rfl
  case' inr.inr.inl | inr.inr.inr.inl | inr.inr.inr.inr.inl | inr.inr.inr.inr.inr =>
    rw [h3] at he
  all_goals
    rw [h]
    clear h
    have HE := Lib.hid he
    clear he
    go_enter Try.func82, Try.ntmps82
    go_wp2_with (go_at_call 86; refine (HE.out _).mono ?_; rintro e w' ⟨rfl, hb⟩; have hc0 := box0 hb; have hc1 := box1 hb)
    go_ret
    first
      | exact ⟨rfl, ((Below.refl _ _).alloc (Nat.le_refl _) _).trans (hb.mono (by simp))⟩
      | exact ⟨rfl, (Below.refl _ _).alloc (Nat.le_refl _) _⟩

end Go.Proofs.Ytcpmcgbjmncalaa.Ival

namespace Go.Proofs.Ytcpmcgbjmncalaa.Lex
open Go.RowKit

theorem landLetter (c : UInt8) (w : World) :
    Calls Try.prog 87 #[.int .u8 (c.toNat : Int)] w fun e w' => e = .returned (.bool (small c)) ∧ w' = w := by
  have h : small c = (decide ((97 : Int) ≤ (c.toNat : Int)) && decide ((c.toNat : Int) ≤ 122)) := by
    unfold small
    rw [← Bool.decide_and]
    exact decide_eq_decide.2 (by omega)
  rw [h]
  by_cases h1 : (97 : Int) ≤ (c.toNat : Int)
  all_goals
    go_enter Try.func87, Try.ntmps87
    go_wp2
    go_ret
    exact ⟨by first | (simp [h1]; done) | (simp; omega), rfl⟩

theorem landDigit (c : UInt8) (w : World) :
    Calls Try.prog 90 #[.int .u8 (c.toNat : Int)] w fun e w' => e = .returned (.bool (digit c)) ∧ w' = w := by
  have h : digit c = (decide ((48 : Int) ≤ (c.toNat : Int)) && decide ((c.toNat : Int) ≤ 57)) := by
    unfold digit
    rw [← Bool.decide_and]
    exact decide_eq_decide.2 (by omega)
  rw [h]
  by_cases h1 : (48 : Int) ≤ (c.toNat : Int)
  all_goals
    go_enter Try.func90, Try.ntmps90
    go_wp2
    go_ret
    exact ⟨by first | (simp [h1]; done) | (simp; omega), rfl⟩

theorem landWordB (c : UInt8) (w : World) :
    Calls Try.prog 89 #[.int .u8 (c.toNat : Int)] w fun e w' => e = .returned (.bool (wordB c)) ∧ w' = w := by
  have h : wordB c = (small c || digit c || decide ((c.toNat : Int) = 95)) := by
    unfold wordB
    rw [Bool.or_comm (digit c) (small c)]
    exact congrArg _ (decide_eq_decide.2 (by omega))
  rw [h]
  have HL := Lib.hid (fun W => landLetter c W)
  have HD := Lib.hid (fun W => landDigit c W)
  clear h
  obtain ⟨a, ha⟩ : ∃ a, small c = a := ⟨_, rfl⟩
  obtain ⟨b, hb⟩ : ∃ b, digit c = b := ⟨_, rfl⟩
  rw [ha, hb]
  rw [ha] at HL
  rw [hb] at HD
  clear ha hb
  cases a <;> cases b
  all_goals
    go_enter Try.func89, Try.ntmps89
    go_wp2_with (first
      | (go_at_call 87; refine (HL.out _).mono ?_; rintro e w' ⟨rfl, rfl⟩)
      | (go_at_call 90; refine (HD.out _).mono ?_; rintro e w' ⟨rfl, rfl⟩))
    go_ret
    exact ⟨by first | rfl | simp, rfl⟩

/-- How many bytes at the beginning are of a kind. -/
def leadS (p : UInt8 → Bool) (l : List UInt8) : Nat := (l.takeWhile p).length
theorem lead_yes {p : UInt8 → Bool} {c : UInt8} {r : List UInt8} (h : p c = true) : leadS p (c :: r) = leadS p r + 1 := by
  unfold leadS
  rw [List.takeWhile_cons_of_pos h]
  rfl
theorem lead_no {p : UInt8 → Bool} {c : UInt8} {r : List UInt8} (h : p c = false) : leadS p (c :: r) = 0 := by
  unfold leadS
  rw [List.takeWhile_cons_of_neg (by rw [h]; decide)]
  rfl
set_option maxHeartbeats 4000000 in
theorem landLead (g : Nat) (p : UInt8 → Bool) (eg : ∀ args w, (callFunc g args).run Try.prog w = .ok (.enter g args) w)
    (hg : ∀ (c : UInt8) (W : World), Calls Try.prog g #[.int .u8 (c.toNat : Int)] W fun e w' => e = .returned (.bool (p c)) ∧ w' = W) (s : ByteArray) (w : World) (hs : s.size ≤ maxLen) :
    Calls Try.prog 88 #[.string s, .func (.func g) #[] #[]] w fun e w' => e = .returned (.int .i64 (leadS p s.data.toList : Nat)) ∧ w' = w := by
  obtain ⟨R, hR⟩ : ∃ R, leadS p s.data.toList = R := ⟨_, rfl⟩
  rw [hR]
  have hm : s.size ≤ 9223372036854775807 := by have : maxLen = 9223372036854775807 := rfl; omega
  have HR := Lib.hid (show R = 0 + leadS p (s.data.toList.drop 0) by rw [Nat.zero_add, List.drop_zero, hR])
  have HM := Lib.hid hm
  have HG := Lib.hid hg
  clear hs hR hm hg
  go_enter Try.func88, Try.ntmps88
  go_wp2
  go_loop [5] (fun i => ∃ n : Nat, n ≤ s.size ∧ i = .int .i64 n ∧ Hid (R = n + leadS p (s.data.toList.drop n))) (fun i => s.size - (intOf i).toNat)
  case atStart => exact ⟨0, Nat.zero_le _, rfl, HR⟩
  case round =>
    obtain ⟨n, hn, rfl, HN⟩ := hrel
    by_cases hlt : n < s.size
    · have hlt' : (n : Int) < (s.size : Int) := by omega
      have hd := drop_get s n hlt
      obtain ⟨c, hc⟩ : ∃ c, s[n] = c := ⟨_, rfl⟩
      rw [hc] at hd
      have hN := HN.out
      rw [hd] at hN
      have hb : (n : Int) + 1 ≤ 9223372036854775807 := by have := HM.out; omega
      have HP := Lib.hid (fun W => HG.out c W)
      clear hd HN
      rcases hpc : p c
      · rw [hpc] at HP
        rw [lead_no hpc] at hN
        have HN := Lib.hid (show R = n by omega)
        clear hN hpc
        go_wp2_with (go_at_fn g; refine (HP.out _).mono ?_; rintro e w' ⟨rfl, rfl⟩)
        go_ret
        exact ⟨by rw [HN.out]; rfl, rfl⟩
      · rw [hpc] at HP
        rw [lead_yes hpc] at hN
        have HN := Lib.hid (show R = (n + 1) + leadS p (s.data.toList.drop (n + 1)) by omega)
        have HQ := Lib.hid (show n + 1 ≤ s.size by omega)
        clear hN hpc
        go_wp2_with (go_at_fn g; refine (HP.out _).mono ?_; rintro e w' ⟨rfl, rfl⟩)
        go_round
        case rel => exact ⟨n + 1, HQ.out, by go_num, HN⟩
        case measure => have := HQ.out; simp [intOf]; omega
    · have hN := HN.out
      rw [drop_end s n (by omega)] at hN
      have HN := Lib.hid (show R = n from hN)
      have hge : decide ((n : Int) < (s.size : Int)) = false := by simp; omega
      clear hN
      go_wp2
      go_ret
      exact ⟨by rw [HN.out]; rfl, rfl⟩
theorem enterWordB : ∀ args w, (callFunc 89 args).run Try.prog w = .ok (.enter 89 args) w := enters_of Try.func89 (by kernel_rfl) rfl
theorem leadWords (s : ByteArray) (w : World) (hs : s.size ≤ maxLen) :
    Calls Try.prog 88 #[.string s, .func (.func 89) #[] #[]] w fun e w' => e = .returned (.int .i64 (run true s.data.toList : Nat)) ∧ w' = w :=
  landLead _ wordB enterWordB landWordB s w hs

theorem dec_beq (a b : List UInt8) : decide (a = b) = (a == b) := by rw [Bool.eq_iff_iff, decide_eq_true_iff, beq_iff_eq]
theorem taken_or (s : ByteArray) : decide (s.data.toList ∈ reserved) = ((s.toList == [116, 114, 117, 101]) || ((s.toList == [102, 97, 108, 115, 101]) || ((s.toList == [112, 114, 101, 118]) || ((s.toList == [110, 101, 120, 116]) || ((s.toList == [111, 110, 99, 101]) || ((s.toList == [104, 105, 115, 116]) || ((s.toList == [115, 111, 109, 101]) || ((s.toList == [97, 108, 108]) || ((s.toList == [115, 105, 110, 99, 101]) || ((s.toList == [117, 110, 116, 105, 108]) || ((s.toList == [98, 97, 99, 107]) || ((s.toList == [102, 111, 114, 101]))))))))))))) := by
  rw [ByteArray.toList_eq]
  simp only [reserved, List.mem_cons, List.not_mem_nil, or_false, Bool.decide_or, dec_beq]

set_option maxHeartbeats 4000000 in
theorem landTaken (s : ByteArray) (w : World) :
    Calls Try.prog 85 #[.string s] w fun e w' => e = .returned (.bool (decide (s.data.toList ∈ reserved))) ∧ w' = w := by
  rw [taken_or]
  obtain ⟨b0, h0⟩ : ∃ b, (s.toList == [116, 114, 117, 101]) = b := ⟨_, rfl⟩
  obtain ⟨b1, h1⟩ : ∃ b, (s.toList == [102, 97, 108, 115, 101]) = b := ⟨_, rfl⟩
  obtain ⟨b2, h2⟩ : ∃ b, (s.toList == [112, 114, 101, 118]) = b := ⟨_, rfl⟩
  obtain ⟨b3, h3⟩ : ∃ b, (s.toList == [110, 101, 120, 116]) = b := ⟨_, rfl⟩
  obtain ⟨b4, h4⟩ : ∃ b, (s.toList == [111, 110, 99, 101]) = b := ⟨_, rfl⟩
  obtain ⟨b5, h5⟩ : ∃ b, (s.toList == [104, 105, 115, 116]) = b := ⟨_, rfl⟩
  obtain ⟨b6, h6⟩ : ∃ b, (s.toList == [115, 111, 109, 101]) = b := ⟨_, rfl⟩
  obtain ⟨b7, h7⟩ : ∃ b, (s.toList == [97, 108, 108]) = b := ⟨_, rfl⟩
  obtain ⟨b8, h8⟩ : ∃ b, (s.toList == [115, 105, 110, 99, 101]) = b := ⟨_, rfl⟩
  obtain ⟨b9, h9⟩ : ∃ b, (s.toList == [117, 110, 116, 105, 108]) = b := ⟨_, rfl⟩
  obtain ⟨b10, h10⟩ : ∃ b, (s.toList == [98, 97, 99, 107]) = b := ⟨_, rfl⟩
  obtain ⟨b11, h11⟩ : ∃ b, (s.toList == [102, 111, 114, 101]) = b := ⟨_, rfl⟩
  rw [h0, h1, h2, h3, h4, h5, h6, h7, h8, h9, h10, h11]
  rcases b0 with _ | _
  rotate_left
  · go_enter Try.func85, Try.ntmps85
    go_wp2
    go_ret
    exact ⟨rfl, rfl⟩
  rcases b1 with _ | _
  rotate_left
  · go_enter Try.func85, Try.ntmps85
    go_wp2
    go_ret
    exact ⟨rfl, rfl⟩
  rcases b2 with _ | _
  rotate_left
  · go_enter Try.func85, Try.ntmps85
    go_wp2
    go_ret
    exact ⟨rfl, rfl⟩
  rcases b3 with _ | _
  rotate_left
  · go_enter Try.func85, Try.ntmps85
    go_wp2
    go_ret
    exact ⟨rfl, rfl⟩
  rcases b4 with _ | _
  rotate_left
  · go_enter Try.func85, Try.ntmps85
    go_wp2
    go_ret
    exact ⟨rfl, rfl⟩
  rcases b5 with _ | _
  rotate_left
  · go_enter Try.func85, Try.ntmps85
    go_wp2
    go_ret
    exact ⟨rfl, rfl⟩
  rcases b6 with _ | _
  rotate_left
  · go_enter Try.func85, Try.ntmps85
    go_wp2
    go_ret
    exact ⟨rfl, rfl⟩
  rcases b7 with _ | _
  rotate_left
  · go_enter Try.func85, Try.ntmps85
    go_wp2
    go_ret
    exact ⟨rfl, rfl⟩
  rcases b8 with _ | _
  rotate_left
  · go_enter Try.func85, Try.ntmps85
    go_wp2
    go_ret
    exact ⟨rfl, rfl⟩
  rcases b9 with _ | _
  rotate_left
  · go_enter Try.func85, Try.ntmps85
    go_wp2
    go_ret
    exact ⟨rfl, rfl⟩
  rcases b10 with _ | _
  rotate_left
  · go_enter Try.func85, Try.ntmps85
    go_wp2
    go_ret
    exact ⟨rfl, rfl⟩
  rcases b11 with _ | _
  rotate_left
  · go_enter Try.func85, Try.ntmps85
    go_wp2
    go_ret
    exact ⟨rfl, rfl⟩
  go_enter Try.func85, Try.ntmps85
  go_wp2
  go_ret
  exact ⟨rfl, rfl⟩

/-- Is a text a word? -/
def isWordS : List UInt8 → Bool
  | [] => false
  | c :: r => decide (r.length + 1 ≤ 16) && small c && decide (run true (c :: r) = r.length + 1)
theorem name_word (L : List UInt8) : nameS L = (isWordS L && !(decide (L ∈ reserved))) := by cases L <;> rfl

set_option maxHeartbeats 2000000 in
theorem landIsWord (s : ByteArray) (w : World) (hs : s.size ≤ maxLen) :
    Calls Try.prog 84 #[.string s] w fun e w' => e = .returned (.bool (isWordS s.data.toList)) ∧ w' = w := by
  have hlen : s.data.toList.length = s.size := Array.length_toList
  cases hL : s.data.toList with
  | nil =>
    have he : s.toList = [] := by rw [ByteArray.toList_eq]; exact hL
    have he2 : (!s.toList.isEmpty) = false := by rw [he]; rfl
    clear hlen hL hs
    go_enter Try.func84, Try.ntmps84
    go_wp2
    go_ret
    exact ⟨rfl, rfl⟩
  | cons c r =>
    have he : s.toList.isEmpty = false := by rw [ByteArray.toList_eq, hL]; rfl
    have hrl : r.length + 1 = s.size := by rw [← hlen, hL]; rfl
    have h0 : 0 < s.size := by omega
    have h0' : (0 : Int) < (s.size : Int) := by omega
    have hc : s[0] = c := by
      have := drop_get s 0 h0
      rw [List.drop_zero, hL] at this
      exact (List.cons.inj this).1.symm
    have hsm := fun W => landLetter c W
    have hrun := fun W => leadWords s W hs
    rw [hL] at hrun
    obtain ⟨n, hn⟩ : ∃ n, run true (c :: r) = n := ⟨_, rfl⟩
    rw [show isWordS (c :: r) = (decide (r.length + 1 ≤ 16) && small c && decide (run true (c :: r) = r.length + 1)) from rfl]
    rw [hn] at hrun ⊢
    rw [hrl]
    have HRUN := Lib.hid hrun
    by_cases h16 : s.size ≤ 16
    · have h16' : (s.size : Int) ≤ 16 := by omega
      rw [decide_eq_true h16, Bool.true_and]
      rcases hbs : small c
      · rw [hbs] at hsm
        have HSM := Lib.hid hsm
        rw [Bool.false_and]
        clear hlen hL hs hrl hn hsm hrun hbs
        go_enter Try.func84, Try.ntmps84
        go_wp2_with (go_at_call 87; refine (HSM.out _).mono ?_; rintro e w' ⟨rfl, rfl⟩)
        go_ret
        exact ⟨rfl, rfl⟩
      · rw [hbs] at hsm
        have HSM := Lib.hid hsm
        rw [Bool.true_and]
        have hq : ((n : Int) == (s.size : Int)) = decide (n = s.size) := by
          rw [Bool.eq_iff_iff, beq_iff_eq, decide_eq_true_iff]
          exact Int.natCast_inj
        rw [← hq]
        clear hlen hL hs hrl hn hsm hrun hbs hq
        go_enter Try.func84, Try.ntmps84
        go_wp2_with (first
          | (go_at_call 87; refine (HSM.out _).mono ?_; rintro e w' ⟨rfl, rfl⟩)
          | (go_at_call 88; refine (HRUN.out _).mono ?_; rintro e w' ⟨rfl, rfl⟩))
        go_ret
        exact ⟨rfl, rfl⟩
    · have h16' : decide ((s.size : Int) ≤ 16) = false := by simp; omega
      rw [decide_eq_false h16, Bool.false_and, Bool.false_and]
      clear hlen hL hs hrl hn hsm hrun h16
      go_enter Try.func84, Try.ntmps84
      go_wp2
      go_ret
      exact ⟨rfl, rfl⟩

set_option maxHeartbeats 1000000 in
theorem landName (s : ByteArray) (w : World) (hs : s.size ≤ maxLen) :
    Calls Try.prog 81 #[.string s] w fun e w' => e = .returned (.bool (nameS s.data.toList)) ∧ w' = w := by
  rw [name_word]
  have hw := fun W => landIsWord s W hs
  have ht := fun W => landTaken s W
  obtain ⟨a, ha⟩ : ∃ a, isWordS s.data.toList = a := ⟨_, rfl⟩
  obtain ⟨b, hb⟩ : ∃ b, decide (s.data.toList ∈ reserved) = b := ⟨_, rfl⟩
  rw [ha] at hw ⊢
  rw [hb] at ht ⊢
  have HW := Lib.hid hw
  have HT := Lib.hid ht
  clear hw ht ha hb hs
  cases a <;> cases b
  all_goals
    go_enter Try.func81, Try.ntmps81
    go_wp2_with (first
      | (go_at_call 84; refine (HW.out _).mono ?_; rintro e w' ⟨rfl, rfl⟩)
      | (go_at_call 85; refine (HT.out _).mono ?_; rintro e w' ⟨rfl, rfl⟩))
    go_ret
    exact ⟨rfl, rfl⟩

end Go.Proofs.Ytcpmcgbjmncalaa.Lex
