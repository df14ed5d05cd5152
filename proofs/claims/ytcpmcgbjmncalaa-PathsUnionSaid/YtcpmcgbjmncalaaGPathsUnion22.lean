/-
  The walk of the law's Span, and of plainer. The law's piles in plain lists; plainer. The law's piles in memory: two rows of lists, apart from each other. The walk of the law's pile.add.
    Made of several texts by wip/tools/mergetpl.py. By an AI agent.
-/
import Derived.Test.YtcpmcgbjmncalaaGPathsUnion21
/- The walk of the law's Span, and of plainer. By an AI agent. -/
namespace Go.Proofs.Ytcpmcgbjmncalaa.Tree
open Go.RowKit Go.Proofs.Ytcpmcgbjmncalaa.Ints

/-- An interval by a number. -/
def spanLo (n : Int) : Int := if 2600 ≤ n then n else n % 3
def spanHi (n : Int) : Int := if n / 3 % 2 = 1 then spanLo n + n / 6 % 3 else -1
theorem span_small (n : Int) (h : 0 ≤ n ∧ n ≤ 100000) : small64 (spanLo n) ∧ small64 (spanHi n) := by
  unfold spanHi spanLo small64
  split <;> split <;> omega
set_option maxHeartbeats 2000000 in
theorem lawSpan (n : Int) (w : World) (h0 : 0 ≤ n) (h1 : n ≤ 100000) :
    Calls Try.prog 60 #[.int .i64 n] w fun e w' => e = .returned (.agg #[.int .i64 (spanLo n), .int .i64 (spanHi n)]) ∧ Below w.heap.size w w' := by
  have hb : ∀ o1 o2 : Obj, Below w.heap.size w ((w.alloc o1).alloc o2) := fun o1 o2 => ((Below.refl _ _).alloc (Nat.le_refl _) _).alloc (le_alloc (Nat.le_refl _)) _
  have HB := Lib.hid hb
  clear hb
  by_cases ha : 2600 ≤ n
  · by_cases hc : n / 3 % 2 = 1
    · have hc' : ((n / 3 % 2) == 1) = true := by rw [hc]; rfl
      have HL := Lib.hid (show spanLo n = n by unfold spanLo; rw [if_pos ha])
      have HH := Lib.hid (show spanHi n = n + n / 6 % 3 by unfold spanHi; rw [if_pos hc]; unfold spanLo; rw [if_pos ha])
      clear hc
      go_enter Try.func60, Try.ntmps60
      go_wp2
      rw [HL.out, HH.out]
      exact bodyPost_ret (v := .agg #[.int .i64 n, .int .i64 (n + n / 6 % 3)]) (by simp [results, Try.results60, go_sem]) rfl ⟨rfl, HB.out _ _⟩
    · have hc' : ((n / 3 % 2) == 1) = false := beq_eq_false_iff_ne.2 hc
      have HL := Lib.hid (show spanLo n = n by unfold spanLo; rw [if_pos ha])
      have HH := Lib.hid (show spanHi n = -1 by unfold spanHi; rw [if_neg hc])
      clear hc
      go_enter Try.func60, Try.ntmps60
      go_wp2
      rw [HL.out, HH.out]
      exact bodyPost_ret (v := .agg #[.int .i64 n, .int .i64 (-1)]) (by simp [results, Try.results60, go_sem]) rfl ⟨rfl, HB.out _ _⟩
  · have ha' : decide (2600 ≤ n) = false := decide_eq_false ha
    by_cases hc : n / 3 % 2 = 1
    · have hc' : ((n / 3 % 2) == 1) = true := by rw [hc]; rfl
      have HL := Lib.hid (show spanLo n = n % 3 by unfold spanLo; rw [if_neg ha])
      have HH := Lib.hid (show spanHi n = n % 3 + n / 6 % 3 by unfold spanHi; rw [if_pos hc]; unfold spanLo; rw [if_neg ha])
      clear hc
      go_enter Try.func60, Try.ntmps60
      go_wp2
      rw [HL.out, HH.out]
      exact bodyPost_ret (v := .agg #[.int .i64 (n % 3), .int .i64 (n % 3 + n / 6 % 3)]) (by simp [results, Try.results60, go_sem]) rfl ⟨rfl, HB.out _ _⟩
    · have hc' : ((n / 3 % 2) == 1) = false := beq_eq_false_iff_ne.2 hc
      have HL := Lib.hid (show spanLo n = n % 3 by unfold spanLo; rw [if_neg ha])
      have HH := Lib.hid (show spanHi n = -1 by unfold spanHi; rw [if_neg hc])
      clear hc
      go_enter Try.func60, Try.ntmps60
      go_wp2
      rw [HL.out, HH.out]
      exact bodyPost_ret (v := .agg #[.int .i64 (n % 3), .int .i64 (-1)]) (by simp [results, Try.results60, go_sem]) rfl ⟨rfl, HB.out _ _⟩
end Go.Proofs.Ytcpmcgbjmncalaa.Tree

/- The law's piles in plain lists; plainer. By an AI agent. -/
namespace Go.Proofs.Ytcpmcgbjmncalaa.Tree
open Go.RowKit Go.Proofs.Ytcpmcgbjmncalaa.Ints

def kindNd (k : Int) : Nd := ⟨k, ⟨#[]⟩, 0, 0, []⟩
def spanNd (k n : Int) : Nd := ⟨k, ⟨#[]⟩, spanLo n, spanHi n, []⟩
def propNd (n : Int) : Nd := ⟨3, ⟨#[if n % 3 = 0 then 112 else if n % 3 = 1 then 113 else 114]⟩, 0, 0, []⟩
abbrev Ls := List (List Nd)
def oneL (l : Ls) (n : Nd) : Ls := if l.length < 1 then l else l.take (l.length - 1) ++ [overL n (l.getD (l.length - 1) []) []]
def twoL (l : Ls) (n : Nd) : Ls := if l.length < 2 then l else l.take (l.length - 2) ++ [overL n (l.getD (l.length - 2) []) (l.getD (l.length - 1) [])]
/-- What one number adds. -/
def addL (op arg : Int) (F R : Ls) : Ls × Ls :=
  if op = 0 then (F ++ [[kindNd (1 + arg % 2)]], R)
  else if op ≤ 3 then (F ++ [[propNd arg]], R)
  else if op = 4 then (oneL F (kindNd 4), R)
  else if op ≤ 7 then (twoL F (kindNd op), R)
  else if op ≤ 13 then (oneL F (spanNd op arg), R)
  else if op ≤ 15 then (twoL F (spanNd op arg), R)
  else if op ≤ 17 then (if R.length < 1 then (F, R) else (F ++ [overL (spanNd op arg) (R.getD (R.length - 1) []) []], R.take (R.length - 1)))
  else if op ≤ 19 then (F, R ++ [[kindNd 18]])
  else if op = 20 then (if F.length < 1 then (F, R) else (F.take (F.length - 1), R ++ [overL (kindNd 19) (F.getD (F.length - 1) []) []]))
  else if op ≤ 22 then (F, twoL R (kindNd (op - 1)))
  else (F, oneL R (kindNd 22))
def plainer (op : Int) : Int :=
  if op = 7 ∨ op = 15 then 6 else if 8 ≤ op ∧ op ≤ 10 then 16 else if 11 ≤ op ∧ op ≤ 13 then 17 else if op = 14 then 5 else op

set_option maxHeartbeats 4000000 in
theorem lawPlainer (k : Nat) (hk : k < 24) (w : World) :
    Calls Try.prog 39 #[.int .i64 (k : Int)] w fun e w' => e = .returned (.int .i64 (plainer k)) ∧ w' = w := by
  have h : k = 0 ∨ k = 1 ∨ k = 2 ∨ k = 3 ∨ k = 4 ∨ k = 5 ∨ k = 6 ∨ k = 7 ∨ k = 8 ∨ k = 9 ∨ k = 10 ∨ k = 11 ∨ k = 12 ∨ k = 13 ∨ k = 14 ∨ k = 15 ∨ k = 16 ∨ k = 17 ∨ k = 18 ∨ k = 19 ∨ k = 20 ∨ k = 21 ∨ k = 22 ∨ k = 23 := by omega
  clear hk
  rcases h with rfl | rfl | rfl | rfl | rfl | rfl | rfl | rfl | rfl | rfl | rfl | rfl | rfl | rfl | rfl | rfl | rfl | rfl | rfl | rfl | rfl | rfl | rfl | rfl
  all_goals
    go_enter Try.func39, Try.ntmps39
    go_wp2
    go_ret
    exact ⟨rfl, rfl⟩

/-! ### one and two where they take nothing -/
theorem lawOne0 (nd0 : Nd) (A : Option Addr) (c : Nat) (w : World) :
    Calls Try.prog 58 #[.slice A 0 c, .agg #[.int .i64 nd0.kind, .string nd0.name, .int .i64 nd0.lo, .int .i64 nd0.hi, .slice none 0 0]] w fun e w' => e = .returned (.slice A 0 c) ∧ Below w.heap.size w w' := by
  go_enter Try.func58, Try.ntmps58
  go_wp2
  go_ret
  exact ⟨rfl, (Below.refl _ _).alloc (Nat.le_refl _) _⟩
theorem lawTwo0 (nd0 : Nd) (A : Option Addr) (n c : Nat) (w : World) (hn : n < 2) :
    Calls Try.prog 59 #[.slice A n c, .agg #[.int .i64 nd0.kind, .string nd0.name, .int .i64 nd0.lo, .int .i64 nd0.hi, .slice none 0 0]] w fun e w' => e = .returned (.slice A n c) ∧ Below w.heap.size w w' := by
  have h : n = 0 ∨ n = 1 := by omega
  clear hn
  rcases h with rfl | rfl
  all_goals
    go_enter Try.func59, Try.ntmps59
    go_wp2
    go_ret
    exact ⟨rfl, (Below.refl _ _).alloc (Nat.le_refl _) _⟩
end Go.Proofs.Ytcpmcgbjmncalaa.Tree

/- The law's piles in memory: two rows of lists, apart from each other. By an AI agent. -/
namespace Go.Proofs.Ytcpmcgbjmncalaa.Tree
open Go.RowKit Go.Proofs.Ytcpmcgbjmncalaa.Ints

/-- Blocks that are none of v's row, nor from B on to D. -/
def Off (v : Value) (B D : Nat) : Nat → Prop := fun b => some b ≠ v.ownBlock ∧ (b < B ∨ D ≤ b)
/-- Two rows of lists, of the call's own, apart from each other and from the blocks from B on to D. -/
def PileX (B D : Nat) (w : World) (base : Nat) (fv rv : Value) (F R : List SL) : Prop :=
  OwnLists (Off rv B D) w base fv F ∧ OwnLists (Off fv B D) w base rv R ∧ (fv.ownBlock = none ∨ fv.ownBlock ≠ rv.ownBlock) ∧ (∀ q, fv.ownBlock = some q → q < B ∨ D ≤ q) ∧ (∀ q, rv.ownBlock = some q → q < B ∨ D ≤ q)
theorem apart_swap {a b : Option Nat} (h : a = none ∨ a ≠ b) : b = none ∨ b ≠ a := by
  by_cases hb : b = none
  · exact Or.inl hb
  · refine Or.inr fun e => ?_
    rcases h with h | h
    · exact hb (e.trans h)
    · exact h e.symm
theorem PileX.swap {B D : Nat} {w : World} {base : Nat} {fv rv : Value} {F R : List SL} (h : PileX B D w base fv rv F R) : PileX B D w base rv fv R F := by
  obtain ⟨h1, h2, h3, h4, h5⟩ := h
  exact ⟨h2, h1, apart_swap h3, h5, h4⟩
theorem PileX.below {B D : Nat} {w w' : World} {base : Nat} {fv rv : Value} {F R : List SL} (h : PileX B D w base fv rv F R) (hb : Below w.heap.size w w') : PileX B D w' base fv rv F R :=
  ⟨h.1.below hb, h.2.1.below hb, h.2.2⟩
theorem PileX.mono {B D B' D' : Nat} {w : World} {base : Nat} {fv rv : Value} {F R : List SL} (h : PileX B D w base fv rv F R) (hs : ∀ q, q < w.heap.size → (q < B ∨ D ≤ q) → (q < B' ∨ D' ≤ q)) : PileX B' D' w base fv rv F R := by
  obtain ⟨h1, h2, h3, h4, h5⟩ := h
  exact ⟨h1.mono fun b hb hp => ⟨hp.1, hs b hb hp.2⟩, h2.mono fun b hb hp => ⟨hp.1, hs b hb hp.2⟩, h3, fun q hq => hs q (h1.1.lt q hq).2 (h4 q hq), fun q hq => hs q (h2.1.lt q hq).2 (h5 q hq)⟩
/-- A store into a block between. -/
theorem PileX.setCell {B D : Nat} {w : World} {base : Nat} {fv rv : Value} {F R : List SL} (h : PileX B D w base fv rv F R) (p : Addr) (u : Value) (hp : B ≤ p.block ∧ p.block < D) : PileX B D (w.setCell p u) base fv rv F R := by
  obtain ⟨h1, h2, h3, h4, h5⟩ := h
  have hg : w.grownBy (w.setCell p u) (some p.block) := ⟨rfl, rfl, rfl, by simp, fun i _ hne => Below.heap_setCell w p u i (fun e => hne (by rw [e]))⟩
  have hno : ∀ b, (b < B ∨ D ≤ b) → some b ≠ some p.block := fun b hb e => by injection e with e; omega
  refine ⟨h1.keep hg ?_ (fun b hb => hno b hb.2), h2.keep hg ?_ (fun b hb => hno b hb.2), h3, h4, h5⟩
  · cases hv : fv.ownBlock with
    | none => exact Or.inl rfl
    | some g => exact Or.inr (hno g (h4 g hv))
  · cases hv : rv.ownBlock with
    | none => exact Or.inl rfl
    | some g => exact Or.inr (hno g (h5 g hv))
/-- The first row has grown. -/
theorem PileX.grow {B D : Nat} {w w' : World} {base : Nat} {fv rv v' : Value} {F R F' : List SL} (h : PileX B D w base fv rv F R) (hF : OwnLists (Off rv B D) w' base v' F') (hg : w.grownBy w' fv.ownBlock) (hat : v'.ownBlock = fv.ownBlock ∨ v'.ownBlock = some w.heap.size) (hD : D ≤ w.heap.size) : PileX B D w' base v' rv F' R := by
  obtain ⟨h1, h2, h3, h4, h5⟩ := h
  have hne : rv.ownBlock = none ∨ rv.ownBlock ≠ fv.ownBlock := apart_swap h3
  have hR := ((h2.mono (S' := fun b => Off fv B D b ∧ b < w.heap.size) fun b hb hp => ⟨hp, hb⟩).keep hg hne (fun b hb => hb.1.1))
  refine ⟨hF, hR.mono fun b _ hp => ⟨fun e => ?_, hp.1.2⟩, ?_, fun q hq => ?_, h5⟩
  · rcases hat with e2 | e2
    · rw [e2] at e; exact hp.1.1 e
    · rw [e2] at e; injection e with e; have := hp.2; omega
  · rcases hat with e2 | e2
    · rw [e2]; exact h3
    · refine Or.inr fun e => ?_
      rw [e2] at e
      have := (h2.1.lt _ e.symm).2
      omega
  · rcases hat with e2 | e2
    · exact h4 q (by rw [← e2]; exact hq)
    · rw [e2] at hq; injection hq with hq; exact Or.inr (by omega)
/-- The first row is a new one. -/
theorem PileX.fresh {B D : Nat} {w w' : World} {base : Nat} {fv rv v' : Value} {F R F' : List SL} (h : PileX B D w base fv rv F R) (hb : Below w.heap.size w w') (hF : OwnLists (From (Off rv B D) w.heap.size) w' w.heap.size v' F') (hD : D ≤ w.heap.size) (hB : base ≤ w.heap.size) : PileX B D w' base v' rv F' R := by
  obtain ⟨h1, h2, h3, h4, h5⟩ := h
  refine ⟨(hF.mono fun b _ hp => ?_).weaken hB, ((h2.mono (S' := fun b => Off fv B D b ∧ b < w.heap.size) fun b hb hp => ⟨hp, hb⟩).below hb).mono fun b _ hp => ⟨fun e => ?_, hp.1.2⟩, ?_, fun q hq => ?_, h5⟩
  · rcases hp with hp | hp
    · exact hp
    · exact ⟨fun e => by have := (h2.1.lt b e.symm).2; omega, Or.inr (by omega)⟩
  · have := (hF.1.lt b e.symm).1; have := hp.2; omega
  · cases hv : v'.ownBlock with
    | none => exact Or.inl rfl
    | some g => exact Or.inr fun e => by have := (hF.1.lt g hv).1; have := (h2.1.lt g e.symm).2; omega
  · have := (hF.1.lt q hq).1; exact Or.inr (by omega)
/-- The second row cut. -/
theorem PileX.cut {B D : Nat} {w : World} {base : Nat} {fv : Value} {A : Option Addr} {n c : Nat} {F R : List SL} (h : PileX B D w base fv (.slice A n c) F R) {k : Nat} (hk : k ≤ R.length) : PileX B D w base fv (.slice A k c) F (R.take k) := by
  obtain ⟨h1, h2, h3, h4, h5⟩ := h
  have e := own_len A k n c
  exact ⟨h1.mono fun b _ hp => ⟨by rw [e]; exact hp.1, hp.2⟩, h2.take hk, by rw [e]; exact h3, h4, by rw [e]; exact h5⟩
/-- The first row reads as lists. -/
theorem PileX.lists {B D : Nat} {w : World} {base : Nat} {A : Option Addr} {c : Nat} {rv : Value} {F R : List SL} (h : PileX B D w base (.slice A F.length c) rv F R) : Lists (Off rv B D) w A F := fun h0 => by
  obtain ⟨h1, h2, h3, h4, h5⟩ := h
  obtain ⟨g, e, hc⟩ := h1.cell h0
  subst e
  refine ⟨g, 0, rfl, ⟨?_, h4 g rfl⟩, fun j s hj => ⟨by rw [Nat.zero_add]; exact hc j s hj, (h1.2 s (List.mem_of_getElem? hj)).mono fun b _ hp => hp.1⟩⟩
  rcases h3 with h3 | h3
  · cases h3
  · exact h3
/-- A list of one node of its own. -/
theorem one_list {S : Nat → Prop} {w : World} {nd : Nd} {g : Nat} (h : BoxAt w g #[.int .i64 nd.kind, .string nd.name, .int .i64 nd.lo, .int .i64 nd.hi, .slice none 0 0]) (hk : nd.kids = []) (hsm : small64 nd.kind ∧ small64 nd.lo ∧ small64 nd.hi ∧ nd.name.size ≤ maxLen) (hS : S g) : ListOk S w ([nd], some ⟨g, 0, none⟩, 1) := by
  refine ⟨fun _ => ⟨g, 0, rfl, fun j n hj => ?_⟩, Nat.le_refl _, show 1 ≤ maxLen by decide⟩
  have hj0 : j = 0 := by
    rcases j with _ | j
    · rfl
    · simp at hj
  subst hj0
  simp only [List.getElem?_cons_zero, Option.some.injEq] at hj
  subst hj
  exact ⟨h.cell 0 _ rfl, h.cell 1 _ rfl, h.cell 2 _ rfl, h.cell 3 _ rfl, hsm.1, hsm.2.1, hsm.2.2.1, hsm.2.2.2, none, 0, by rw [h.cell 4 _ rfl, hk]; rfl, by rw [hk]; exact Rd.nil _ _ _, by rw [hk]; exact Nat.le_refl _, by decide, hS, fun a e => by cases e⟩
end Go.Proofs.Ytcpmcgbjmncalaa.Tree

/- The walk of the law's pile.add. By an AI agent. -/
namespace Go.Proofs.Ytcpmcgbjmncalaa.Tree
open Go.RowKit Go.Proofs.Ytcpmcgbjmncalaa.Ints

/-- What add leaves: the two rows. -/
def GotPile (w : World) (base : Nat) (m : Ls × Ls) (e : Ending) (w' : World) : Prop :=
  ∃ fv rv F R, e = .returned (.agg #[fv, rv]) ∧ PileX 0 0 w' base fv rv F R ∧ (F.map (·.1), R.map (·.1)) = m ∧ Below base w w'
theorem kind_small (k : Int) (h : 0 ≤ k ∧ k ≤ 100) : small64 (kindNd k).kind ∧ small64 (kindNd k).lo ∧ small64 (kindNd k).hi ∧ (kindNd k).name.size ≤ maxLen := by
  unfold kindNd small64
  exact ⟨by simp only; omega, by simp, by simp, show (0 : Nat) ≤ maxLen from Nat.zero_le _⟩

theorem blk_cell {w : World} {g : Nat} {cs : Array Value} {T : TypeId} (h : w.heap[g]? = some (.cells cs T (0, 0))) (o : Nat) (u : Value) (hu : cs[o]? = some u) : w.cell? ⟨g, o, none⟩ = some u := by
  rw [cell_of_row w g o _ _ (0, 0) h]; exact hu
theorem blk_frozen {w : World} {g : Nat} {cs : Array Value} {T : TypeId} (h : w.heap[g]? = some (.cells cs T (0, 0))) (o : Nat) : w.frozen? ⟨g, o, none⟩ = false := by
  simp [World.frozen?, h]
/-- The four blocks that add lays ahead of an append. -/
theorem add_pile {base : Nat} {fv rv : Value} {F R : List SL} {w : World} (hp : PileX 0 0 w base fv rv F R) (o1 o2 o3 : Obj) : PileX w.heap.size (w.heap.size + 2) (((w.alloc o1).alloc o2).alloc o3) base fv rv F R :=
  (hp.mono (B' := w.heap.size) (D' := w.heap.size + 2) fun _ hq _ => Or.inl hq).below (((((Below.refl _ _).alloc (Nat.le_refl _) _).alloc (le_alloc (Nat.le_refl _)) _).alloc (le_alloc (le_alloc (Nat.le_refl _))) _))
theorem add_size (w : World) (o1 o2 o3 : Obj) : (((w.alloc o1).alloc o2).alloc o3).heap.size = w.heap.size + 3 := by simp
theorem add_box (w : World) (o1 o2 : Obj) (cs : Array Value) : BoxAt (((w.alloc o1).alloc o2).alloc (.cells cs 42)) (w.heap.size + 2) cs := by
  have := BoxAt.new ((w.alloc o1).alloc o2) cs
  simpa using this
theorem add_blk0 (w : World) (o1 o2 o3 o4 : Obj) : ((((w.alloc o1).alloc o2).alloc o3).alloc o4).heap[w.heap.size]? = some o1 := blk_alloc (blk_alloc (blk_alloc (new_at w o1)))
theorem add_blk1 (w : World) (o1 o2 o3 o4 : Obj) : ((((w.alloc o1).alloc o2).alloc o3).alloc o4).heap[w.heap.size + 1]? = some o2 := blk_alloc (blk_alloc (new_at2 w o1 o2))

/-- What stands at add's end: the box and the result are written. -/
def endW (w3 : World) (g : Nat) (k : Nat) (fv rv x : Value) : World := ((w3.setCell ⟨g, k, none⟩ x).setCell ⟨g + 1, 0, none⟩ fv).setCell ⟨g + 1, 1, none⟩ rv
theorem end_cells {w3 : World} {g k : Nat} {fv rv x u0 u1 : Value} (h0 : w3.cell? ⟨g + 1, 0, none⟩ = some u0) (h1 : w3.cell? ⟨g + 1, 1, none⟩ = some u1) :
    (endW w3 g k fv rv x).cell? ⟨g + 1, 0, none⟩ = some fv ∧ (endW w3 g k fv rv x).cell? ⟨g + 1, 1, none⟩ = some rv := by
  have a0 : (w3.setCell ⟨g, k, none⟩ x).cell? ⟨g + 1, 0, none⟩ = some u0 := (World.cell?_setCell_far _ _ _ _ (by simp)).trans h0
  have a1 : (w3.setCell ⟨g, k, none⟩ x).cell? ⟨g + 1, 1, none⟩ = some u1 := (World.cell?_setCell_far _ _ _ _ (by simp)).trans h1
  have b0 := World.cell?_setCell_same _ _ fv a0
  have b1 : ((w3.setCell ⟨g, k, none⟩ x).setCell ⟨g + 1, 0, none⟩ fv).cell? ⟨g + 1, 1, none⟩ = some u1 := (World.cell?_setCell_other _ _ _ _ (by simp)).trans a1
  exact ⟨(World.cell?_setCell_other _ _ _ _ (by simp)).trans b0, World.cell?_setCell_same _ _ rv b1⟩
theorem pile_end {w3 : World} {g k base : Nat} {fv rv x : Value} {F R : List SL} (h : PileX g (g + 2) w3 base fv rv F R) : PileX 0 0 (endW w3 g k fv rv x) base fv rv F R :=
  (((h.setCell ⟨g, k, none⟩ x (by simp)).setCell ⟨g + 1, 0, none⟩ fv (by simp)).setCell ⟨g + 1, 1, none⟩ rv (by simp)).mono fun _ _ _ => Or.inr (Nat.zero_le _)
theorem below_end {w w3 : World} {g k base : Nat} {fv rv x : Value} (h : Below base w w3) (hg : base ≤ g) : Below base w (endW w3 g k fv rv x) :=
  ((h.setCell (p := ⟨g, k, none⟩) hg _).setCell (p := ⟨g + 1, 0, none⟩) (Nat.le_succ_of_le hg) _).setCell (p := ⟨g + 1, 1, none⟩) (Nat.le_succ_of_le hg) _

end Go.Proofs.Ytcpmcgbjmncalaa.Tree
