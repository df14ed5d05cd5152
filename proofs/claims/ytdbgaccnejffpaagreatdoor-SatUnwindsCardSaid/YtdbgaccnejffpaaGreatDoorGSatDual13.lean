/-
  The walk of the law's Span, and of plainer. The law's piles in plain lists; plainer. The law's piles in memory: two rows of lists, apart from each other. The walk of the law's pile.add.
    Made of several texts by wip/tools/mergetpl.py. By an AI agent.
  What the law's build makes may be: plain mathematics. By an AI agent.
-/
import Derived.Test.YtdbgaccnejffpaaGreatDoorGSatDual12
import Derived.Test.YtdbgaccnejffpaaGreatDoorGSatDual6
/- The walk of the law's Span, and of plainer. By an AI agent. -/
namespace Go.Proofs.YtdbgaccnejffpaaGreatDoor.Tree
open Go.RowKit Go.Proofs.YtdbgaccnejffpaaGreatDoor.Ints
def spanLo (n : Int) : Int := if 2600 ≤ n then n else n % 3
def spanHi (n : Int) : Int := if n / 3 % 2 = 1 then spanLo n + n / 6 % 3 else -1
theorem span_small (n : Int) (h : 0 ≤ n ∧ n ≤ 100000) : small64 (spanLo n) ∧ small64 (spanHi n) := by
 unfold spanHi spanLo small64
 split <;> split <;> omega
set_option maxHeartbeats 2000000 in
theorem lawSpan (n : Int) (w : World) (h0 : 0 ≤ n) (h1 : n ≤ 100000) :
  Calls Tryz.prog 7 #[.int .i64 n] w fun e w' => e = .returned (.agg #[.int .i64 (spanLo n), .int .i64 (spanHi n)]) ∧ Below w.heap.size w w' := by
 have hb : ∀ o1 o2 : Obj, Below w.heap.size w ((w.alloc o1).alloc o2) := fun o1 o2 => ((Below.refl _ _).alloc (Nat.le_refl _) _).alloc (le_alloc (Nat.le_refl _)) _
 have HB := Lib.hid hb
 clear hb
 by_cases ha : 2600 ≤ n
 ·by_cases hc : n / 3 % 2 = 1
  ·have hc' : ((n / 3 % 2) == 1) = true := by rw [hc]; rfl
   have HL := Lib.hid (show spanLo n = n by unfold spanLo; rw [if_pos ha])
   have HH := Lib.hid (show spanHi n = n + n / 6 % 3 by unfold spanHi; rw [if_pos hc]; unfold spanLo; rw [if_pos ha])
   clear hc
   go_enter Tryz.func7, Tryz.ntmps7
   go_wp2
   rw [HL.out, HH.out]
   exact bodyPost_ret (v := .agg #[.int .i64 n, .int .i64 (n + n / 6 % 3)]) (by simp [results, Tryz.results7, go_sem]) rfl ⟨rfl, HB.out _ _⟩
  ·have hc' : ((n / 3 % 2) == 1) = false := beq_eq_false_iff_ne.2 hc
   have HL := Lib.hid (show spanLo n = n by unfold spanLo; rw [if_pos ha])
   have HH := Lib.hid (show spanHi n = -1 by unfold spanHi; rw [if_neg hc])
   clear hc
   go_enter Tryz.func7, Tryz.ntmps7
   go_wp2
   rw [HL.out, HH.out]
   exact bodyPost_ret (v := .agg #[.int .i64 n, .int .i64 (-1)]) (by simp [results, Tryz.results7, go_sem]) rfl ⟨rfl, HB.out _ _⟩
 ·have ha' : decide (2600 ≤ n) = false := decide_eq_false ha
  by_cases hc : n / 3 % 2 = 1
  ·have hc' : ((n / 3 % 2) == 1) = true := by rw [hc]; rfl
   have HL := Lib.hid (show spanLo n = n % 3 by unfold spanLo; rw [if_neg ha])
   have HH := Lib.hid (show spanHi n = n % 3 + n / 6 % 3 by unfold spanHi; rw [if_pos hc]; unfold spanLo; rw [if_neg ha])
   clear hc
   go_enter Tryz.func7, Tryz.ntmps7
   go_wp2
   rw [HL.out, HH.out]
   exact bodyPost_ret (v := .agg #[.int .i64 (n % 3), .int .i64 (n % 3 + n / 6 % 3)]) (by simp [results, Tryz.results7, go_sem]) rfl ⟨rfl, HB.out _ _⟩
  ·have hc' : ((n / 3 % 2) == 1) = false := beq_eq_false_iff_ne.2 hc
   have HL := Lib.hid (show spanLo n = n % 3 by unfold spanLo; rw [if_neg ha])
   have HH := Lib.hid (show spanHi n = -1 by unfold spanHi; rw [if_neg hc])
   clear hc
   go_enter Tryz.func7, Tryz.ntmps7
   go_wp2
   rw [HL.out, HH.out]
   exact bodyPost_ret (v := .agg #[.int .i64 (n % 3), .int .i64 (-1)]) (by simp [results, Tryz.results7, go_sem]) rfl ⟨rfl, HB.out _ _⟩
end Go.Proofs.YtdbgaccnejffpaaGreatDoor.Tree
/- The law's piles in plain lists; plainer. By an AI agent. -/
namespace Go.Proofs.YtdbgaccnejffpaaGreatDoor.Tree
open Go.RowKit Go.Proofs.YtdbgaccnejffpaaGreatDoor.Ints
def kindNd (k : Int) : Nd := ⟨k, ⟨#[]⟩, 0, 0, []⟩
def spanNd (k n : Int) : Nd := ⟨k, ⟨#[]⟩, spanLo n, spanHi n, []⟩
def propNd (n : Int) : Nd := ⟨3, ⟨#[if n % 3 = 0 then 112 else if n % 3 = 1 then 113 else 114]⟩, 0, 0, []⟩
abbrev Ls := List (List Nd)
def oneL (l : Ls) (n : Nd) : Ls := if l.length < 1 then l else l.take (l.length - 1) ++ [overL n (l.getD (l.length - 1) []) []]
def twoL (l : Ls) (n : Nd) : Ls := if l.length < 2 then l else l.take (l.length - 2) ++ [overL n (l.getD (l.length - 2) []) (l.getD (l.length - 1) [])]
def addL (op arg : Int) (F R : Ls) : Ls × Ls :=
 if op = 0 then (F ++ [[kindNd (1 + arg % 2)]], R)
 else if op ≤ 3 then (F ++ [[propNd arg]], R)
 else if op = 4 then (oneL F (kindNd 4), R)
 else if op ≤ 7 then (twoL F (kindNd op), R)
 else if op ≤ 13 then (oneL F (spanNd op arg), R)
 else if op ≤ 15 then (twoL F (spanNd op arg), R)
 else if op ≤ 17 then (if R.length < 1 then (F, R) else (F ++ [overL (spanNd op arg) (R.getD (R.length - 1) []) []], R.take (R.length - 1)))
 else if op ≤ 19 then (F, R ++ [[kindNd 18]])
 else if op = 20 then (if F.length < 1 then (F, R) else (F.take (F.length - 1), R ++ [overL (kindNd 19) (F.getD (F.length - 1) []) []]))
 else if op ≤ 22 then (F, twoL R (kindNd (op - 1)))
 else (F, oneL R (kindNd 22))
def plainer (op : Int) : Int :=
 if op = 7 ∨ op = 15 then 6 else if 8 ≤ op ∧ op ≤ 10 then 16 else if 11 ≤ op ∧ op ≤ 13 then 17 else if op = 14 then 5 else op
set_option maxHeartbeats 4000000 in
theorem lawPlainer (k : Nat) (hk : k < 24) (w : World) :
  Calls Tryz.prog 20 #[.int .i64 (k : Int)] w fun e w' => e = .returned (.int .i64 (plainer k)) ∧ w' = w := by
 have h : k = 0 ∨ k = 1 ∨ k = 2 ∨ k = 3 ∨ k = 4 ∨ k = 5 ∨ k = 6 ∨ k = 7 ∨ k = 8 ∨ k = 9 ∨ k = 10 ∨ k = 11 ∨ k = 12 ∨ k = 13 ∨ k = 14 ∨ k = 15 ∨ k = 16 ∨ k = 17 ∨ k = 18 ∨ k = 19 ∨ k = 20 ∨ k = 21 ∨ k = 22 ∨ k = 23 := by omega
 clear hk
 rcases h with rfl | rfl | rfl | rfl | rfl | rfl | rfl | rfl | rfl | rfl | rfl | rfl | rfl | rfl | rfl | rfl | rfl | rfl | rfl | rfl | rfl | rfl | rfl | rfl
 all_goals
  go_enter Tryz.func20, Tryz.ntmps20
  go_wp2
  go_ret
  exact ⟨rfl, rfl⟩
theorem lawOne0 (nd0 : Nd) (A : Option Addr) (c : Nat) (w : World) :
  Calls Tryz.prog 26 #[.slice A 0 c, .agg #[.int .i64 nd0.kind, .string nd0.name, .int .i64 nd0.lo, .int .i64 nd0.hi, .slice none 0 0]] w fun e w' => e = .returned (.slice A 0 c) ∧ Below w.heap.size w w' := by
 go_enter Tryz.func26, Tryz.ntmps26
 go_wp2
 go_ret
 exact ⟨rfl, (Below.refl _ _).alloc (Nat.le_refl _) _⟩
theorem lawTwo0 (nd0 : Nd) (A : Option Addr) (n c : Nat) (w : World) (hn : n < 2) :
  Calls Tryz.prog 27 #[.slice A n c, .agg #[.int .i64 nd0.kind, .string nd0.name, .int .i64 nd0.lo, .int .i64 nd0.hi, .slice none 0 0]] w fun e w' => e = .returned (.slice A n c) ∧ Below w.heap.size w w' := by
 have h : n = 0 ∨ n = 1 := by omega
 clear hn
 rcases h with rfl | rfl
 all_goals
  go_enter Tryz.func27, Tryz.ntmps27
  go_wp2
  go_ret
  exact ⟨rfl, (Below.refl _ _).alloc (Nat.le_refl _) _⟩
end Go.Proofs.YtdbgaccnejffpaaGreatDoor.Tree
/- The law's piles in memory: two rows of lists, apart from each other. By an AI agent. -/
namespace Go.Proofs.YtdbgaccnejffpaaGreatDoor.Tree
open Go.RowKit Go.Proofs.YtdbgaccnejffpaaGreatDoor.Ints
def Off (v : Value) (B D : Nat) : Nat → Prop := fun b => some b ≠ v.ownBlock ∧ (b < B ∨ D ≤ b)
def PileX (B D : Nat) (w : World) (base : Nat) (fv rv : Value) (F R : List SL) : Prop :=
 OwnLists (Off rv B D) w base fv F ∧ OwnLists (Off fv B D) w base rv R ∧ (fv.ownBlock = none ∨ fv.ownBlock ≠ rv.ownBlock) ∧ (∀ q, fv.ownBlock = some q → q < B ∨ D ≤ q) ∧ (∀ q, rv.ownBlock = some q → q < B ∨ D ≤ q)
theorem apart_swap {a b : Option Nat} (h : a = none ∨ a ≠ b) : b = none ∨ b ≠ a := by
 by_cases hb : b = none
 ·exact Or.inl hb
 ·refine Or.inr fun e => ?_
  rcases h with h | h
  ·exact hb (e.trans h)
  ·exact h e.symm
theorem PileX.swap {B D : Nat} {w : World} {base : Nat} {fv rv : Value} {F R : List SL} (h : PileX B D w base fv rv F R) : PileX B D w base rv fv R F := by
 obtain ⟨h1, h2, h3, h4, h5⟩ := h
 exact ⟨h2, h1, apart_swap h3, h5, h4⟩
theorem PileX.below {B D : Nat} {w w' : World} {base : Nat} {fv rv : Value} {F R : List SL} (h : PileX B D w base fv rv F R) (hb : Below w.heap.size w w') : PileX B D w' base fv rv F R :=
 ⟨h.1.below hb, h.2.1.below hb, h.2.2⟩
theorem PileX.mono {B D B' D' : Nat} {w : World} {base : Nat} {fv rv : Value} {F R : List SL} (h : PileX B D w base fv rv F R) (hs : ∀ q, q < w.heap.size → (q < B ∨ D ≤ q) → (q < B' ∨ D' ≤ q)) : PileX B' D' w base fv rv F R := by
 obtain ⟨h1, h2, h3, h4, h5⟩ := h
 exact ⟨h1.mono fun b hb hp => ⟨hp.1, hs b hb hp.2⟩, h2.mono fun b hb hp => ⟨hp.1, hs b hb hp.2⟩, h3, fun q hq => hs q (h1.1.lt q hq).2 (h4 q hq), fun q hq => hs q (h2.1.lt q hq).2 (h5 q hq)⟩
theorem PileX.setCell {B D : Nat} {w : World} {base : Nat} {fv rv : Value} {F R : List SL} (h : PileX B D w base fv rv F R) (p : Addr) (u : Value) (hp : B ≤ p.block ∧ p.block < D) : PileX B D (w.setCell p u) base fv rv F R := by
 obtain ⟨h1, h2, h3, h4, h5⟩ := h
 have hg : w.grownBy (w.setCell p u) (some p.block) := ⟨rfl, rfl, rfl, by simp, fun i _ hne => Below.heap_setCell w p u i (fun e => hne (by rw [e]))⟩
 have hno : ∀ b, (b < B ∨ D ≤ b) → some b ≠ some p.block := fun b hb e => by injection e with e; omega
 refine ⟨h1.keep hg ?_ (fun b hb => hno b hb.2), h2.keep hg ?_ (fun b hb => hno b hb.2), h3, h4, h5⟩
 ·cases hv : fv.ownBlock with
  | none => exact Or.inl rfl
  | some g => exact Or.inr (hno g (h4 g hv))
 ·cases hv : rv.ownBlock with
  | none => exact Or.inl rfl
  | some g => exact Or.inr (hno g (h5 g hv))
theorem PileX.grow {B D : Nat} {w w' : World} {base : Nat} {fv rv v' : Value} {F R F' : List SL} (h : PileX B D w base fv rv F R) (hF : OwnLists (Off rv B D) w' base v' F') (hg : w.grownBy w' fv.ownBlock) (hat : v'.ownBlock = fv.ownBlock ∨ v'.ownBlock = some w.heap.size) (hD : D ≤ w.heap.size) : PileX B D w' base v' rv F' R := by
 obtain ⟨h1, h2, h3, h4, h5⟩ := h
 have hne : rv.ownBlock = none ∨ rv.ownBlock ≠ fv.ownBlock := apart_swap h3
 have hR := ((h2.mono (S' := fun b => Off fv B D b ∧ b < w.heap.size) fun b hb hp => ⟨hp, hb⟩).keep hg hne (fun b hb => hb.1.1))
 refine ⟨hF, hR.mono fun b _ hp => ⟨fun e => ?_, hp.1.2⟩, ?_, fun q hq => ?_, h5⟩
 ·rcases hat with e2 | e2
  ·rw [e2] at e; exact hp.1.1 e
  ·rw [e2] at e; injection e with e; have := hp.2; omega
 ·rcases hat with e2 | e2
  ·rw [e2]; exact h3
  ·refine Or.inr fun e => ?_
   rw [e2] at e
   have := (h2.1.lt _ e.symm).2
   omega
 ·rcases hat with e2 | e2
  ·exact h4 q (by rw [← e2]; exact hq)
  ·rw [e2] at hq; injection hq with hq; exact Or.inr (by omega)
theorem PileX.fresh {B D : Nat} {w w' : World} {base : Nat} {fv rv v' : Value} {F R F' : List SL} (h : PileX B D w base fv rv F R) (hb : Below w.heap.size w w') (hF : OwnLists (From (Off rv B D) w.heap.size) w' w.heap.size v' F') (hD : D ≤ w.heap.size) (hB : base ≤ w.heap.size) : PileX B D w' base v' rv F' R := by
 obtain ⟨h1, h2, h3, h4, h5⟩ := h
 refine ⟨(hF.mono fun b _ hp => ?_).weaken hB, ((h2.mono (S' := fun b => Off fv B D b ∧ b < w.heap.size) fun b hb hp => ⟨hp, hb⟩).below hb).mono fun b _ hp => ⟨fun e => ?_, hp.1.2⟩, ?_, fun q hq => ?_, h5⟩
 ·rcases hp with hp | hp
  ·exact hp
  ·exact ⟨fun e => by have := (h2.1.lt b e.symm).2; omega, Or.inr (by omega)⟩
 ·have := (hF.1.lt b e.symm).1; have := hp.2; omega
 ·cases hv : v'.ownBlock with
  | none => exact Or.inl rfl
  | some g => exact Or.inr fun e => by have := (hF.1.lt g hv).1; have := (h2.1.lt g e.symm).2; omega
 ·have := (hF.1.lt q hq).1; exact Or.inr (by omega)
theorem PileX.cut {B D : Nat} {w : World} {base : Nat} {fv : Value} {A : Option Addr} {n c : Nat} {F R : List SL} (h : PileX B D w base fv (.slice A n c) F R) {k : Nat} (hk : k ≤ R.length) : PileX B D w base fv (.slice A k c) F (R.take k) := by
 obtain ⟨h1, h2, h3, h4, h5⟩ := h
 have e := own_len A k n c
 exact ⟨h1.mono fun b _ hp => ⟨by rw [e]; exact hp.1, hp.2⟩, h2.take hk, by rw [e]; exact h3, h4, by rw [e]; exact h5⟩
theorem PileX.lists {B D : Nat} {w : World} {base : Nat} {A : Option Addr} {c : Nat} {rv : Value} {F R : List SL} (h : PileX B D w base (.slice A F.length c) rv F R) : Lists (Off rv B D) w A F := fun h0 => by
 obtain ⟨h1, h2, h3, h4, h5⟩ := h
 obtain ⟨g, e, hc⟩ := h1.cell h0
 subst e
 refine ⟨g, 0, rfl, ⟨?_, h4 g rfl⟩, fun j s hj => ⟨by rw [Nat.zero_add]; exact hc j s hj, (h1.2 s (List.mem_of_getElem? hj)).mono fun b _ hp => hp.1⟩⟩
 rcases h3 with h3 | h3
 ·cases h3
 ·exact h3
theorem one_list {S : Nat → Prop} {w : World} {nd : Nd} {g : Nat} (h : BoxAt w g #[.int .i64 nd.kind, .string nd.name, .int .i64 nd.lo, .int .i64 nd.hi, .slice none 0 0]) (hk : nd.kids = []) (hsm : small64 nd.kind ∧ small64 nd.lo ∧ small64 nd.hi ∧ nd.name.size ≤ maxLen) (hS : S g) : ListOk S w ([nd], some ⟨g, 0, none⟩, 1) := by
 refine ⟨fun _ => ⟨g, 0, rfl, fun j n hj => ?_⟩, Nat.le_refl _, show 1 ≤ maxLen by decide⟩
 have hj0 : j = 0 := by
  rcases j with _ | j
  ·rfl
  ·simp at hj
 subst hj0
 simp only [List.getElem?_cons_zero, Option.some.injEq] at hj
 subst hj
 exact ⟨h.cell 0 _ rfl, h.cell 1 _ rfl, h.cell 2 _ rfl, h.cell 3 _ rfl, hsm.1, hsm.2.1, hsm.2.2.1, hsm.2.2.2, none, 0, by rw [h.cell 4 _ rfl, hk]; rfl, by rw [hk]; exact Rd.nil _ _ _, by rw [hk]; exact Nat.le_refl _, by decide, hS, fun a e => by cases e⟩
end Go.Proofs.YtdbgaccnejffpaaGreatDoor.Tree
/- The walk of the law's pile.add. By an AI agent. -/
namespace Go.Proofs.YtdbgaccnejffpaaGreatDoor.Tree
open Go.RowKit Go.Proofs.YtdbgaccnejffpaaGreatDoor.Ints
def GotPile (w : World) (base : Nat) (m : Ls × Ls) (e : Ending) (w' : World) : Prop :=
 ∃ fv rv F R, e = .returned (.agg #[fv, rv]) ∧ PileX 0 0 w' base fv rv F R ∧ (F.map (·.1), R.map (·.1)) = m ∧ Below base w w'
theorem kind_small (k : Int) (h : 0 ≤ k ∧ k ≤ 100) : small64 (kindNd k).kind ∧ small64 (kindNd k).lo ∧ small64 (kindNd k).hi ∧ (kindNd k).name.size ≤ maxLen := by
 unfold kindNd small64
 exact ⟨by simp only; omega, by simp, by simp, show (0 : Nat) ≤ maxLen from Nat.zero_le _⟩
theorem blk_cell {w : World} {g : Nat} {cs : Array Value} {T : TypeId} (h : w.heap[g]? = some (.cells cs T (0, 0))) (o : Nat) (u : Value) (hu : cs[o]? = some u) : w.cell? ⟨g, o, none⟩ = some u := by
 rw [cell_of_row w g o _ _ (0, 0) h]; exact hu
theorem blk_frozen {w : World} {g : Nat} {cs : Array Value} {T : TypeId} (h : w.heap[g]? = some (.cells cs T (0, 0))) (o : Nat) : w.frozen? ⟨g, o, none⟩ = false := by
 simp [World.frozen?, h]
theorem add_pile {base : Nat} {fv rv : Value} {F R : List SL} {w : World} (hp : PileX 0 0 w base fv rv F R) (o1 o2 o3 : Obj) : PileX w.heap.size (w.heap.size + 2) (((w.alloc o1).alloc o2).alloc o3) base fv rv F R :=
 (hp.mono (B' := w.heap.size) (D' := w.heap.size + 2) fun _ hq _ => Or.inl hq).below (((((Below.refl _ _).alloc (Nat.le_refl _) _).alloc (le_alloc (Nat.le_refl _)) _).alloc (le_alloc (le_alloc (Nat.le_refl _))) _))
theorem add_size (w : World) (o1 o2 o3 : Obj) : (((w.alloc o1).alloc o2).alloc o3).heap.size = w.heap.size + 3 := by simp
theorem add_box (w : World) (o1 o2 : Obj) (cs : Array Value) : BoxAt (((w.alloc o1).alloc o2).alloc (.cells cs 37)) (w.heap.size + 2) cs := by
 have := BoxAt.new ((w.alloc o1).alloc o2) cs
 simpa using this
theorem add_blk0 (w : World) (o1 o2 o3 o4 : Obj) : ((((w.alloc o1).alloc o2).alloc o3).alloc o4).heap[w.heap.size]? = some o1 := blk_alloc (blk_alloc (blk_alloc (new_at w o1)))
theorem add_blk1 (w : World) (o1 o2 o3 o4 : Obj) : ((((w.alloc o1).alloc o2).alloc o3).alloc o4).heap[w.heap.size + 1]? = some o2 := blk_alloc (blk_alloc (new_at2 w o1 o2))
def endW (w3 : World) (g : Nat) (k : Nat) (fv rv x : Value) : World := ((w3.setCell ⟨g, k, none⟩ x).setCell ⟨g + 1, 0, none⟩ fv).setCell ⟨g + 1, 1, none⟩ rv
theorem end_cells {w3 : World} {g k : Nat} {fv rv x u0 u1 : Value} (h0 : w3.cell? ⟨g + 1, 0, none⟩ = some u0) (h1 : w3.cell? ⟨g + 1, 1, none⟩ = some u1) :
  (endW w3 g k fv rv x).cell? ⟨g + 1, 0, none⟩ = some fv ∧ (endW w3 g k fv rv x).cell? ⟨g + 1, 1, none⟩ = some rv := by
 have a0 : (w3.setCell ⟨g, k, none⟩ x).cell? ⟨g + 1, 0, none⟩ = some u0 := (World.cell?_setCell_far _ _ _ _ (by simp)).trans h0
 have a1 : (w3.setCell ⟨g, k, none⟩ x).cell? ⟨g + 1, 1, none⟩ = some u1 := (World.cell?_setCell_far _ _ _ _ (by simp)).trans h1
 have b0 := World.cell?_setCell_same _ _ fv a0
 have b1 : ((w3.setCell ⟨g, k, none⟩ x).setCell ⟨g + 1, 0, none⟩ fv).cell? ⟨g + 1, 1, none⟩ = some u1 := (World.cell?_setCell_other _ _ _ _ (by simp)).trans a1
 exact ⟨(World.cell?_setCell_other _ _ _ _ (by simp)).trans b0, World.cell?_setCell_same _ _ rv b1⟩
theorem pile_end {w3 : World} {g k base : Nat} {fv rv x : Value} {F R : List SL} (h : PileX g (g + 2) w3 base fv rv F R) : PileX 0 0 (endW w3 g k fv rv x) base fv rv F R :=
 (((h.setCell ⟨g, k, none⟩ x (by simp)).setCell ⟨g + 1, 0, none⟩ fv (by simp)).setCell ⟨g + 1, 1, none⟩ rv (by simp)).mono fun _ _ _ => Or.inr (Nat.zero_le _)
theorem below_end {w w3 : World} {g k base : Nat} {fv rv x : Value} (h : Below base w w3) (hg : base ≤ g) : Below base w (endW w3 g k fv rv x) :=
 ((h.setCell (p := ⟨g, k, none⟩) hg _).setCell (p := ⟨g + 1, 0, none⟩) (Nat.le_succ_of_le hg) _).setCell (p := ⟨g + 1, 1, none⟩) (Nat.le_succ_of_le hg) _
end Go.Proofs.YtdbgaccnejffpaaGreatDoor.Tree

namespace Go.Proofs.YtdbgaccnejffpaaGreatDoor.Tree
open Go.RowKit Go.Proofs.YtdbgaccnejffpaaGreatDoor.Ints
def G (fm pl : Bool) (l : List Nd) : Prop := mayL l = true ∧ regKind (lastKind l) = !fm ∧ (pl = true → (l.all fun n => !sweet n.kind) = true)
theorem last_range {l : List Nd} (h : mayL l = true) : 1 ≤ lastKind l ∧ lastKind l ≤ 22 := by
 obtain ⟨n, st, h1, -, -, h4, -⟩ := may_apart h
 unfold lastKind
 rw [h1, Option.map_some, Option.getD_some]
 unfold fieldsB at h4
 rw [Bool.and_eq_true, kinds_range] at h4
 exact h4.1
theorem form_reg {k : Int} (h : 1 ≤ k ∧ k ≤ 22) : formKind k = !(regKind k) := by
 unfold formKind regKind
 by_cases h2 : k ≤ 17
 ·rw [decide_eq_true (by omega), decide_eq_false (by omega)]; rfl
 ·rw [decide_eq_false (by omega), decide_eq_true (by omega)]; rfl
theorem over_last (n : Nd) (a b : List Nd) : lastKind (overL n a b) = n.kind := by
 unfold lastKind overL
 rw [List.getLast?_concat]
 rfl
theorem over_len (n : Nd) (a b : List Nd) : (overL n a b).length = a.length + b.length + 1 := by
 unfold overL
 rw [List.length_append, List.length_append, List.length_map]
 rfl
theorem over_plain {n : Nd} {a b : List Nd} (ha : (a.all fun n => !sweet n.kind) = true) (hb : (b.all fun n => !sweet n.kind) = true) (hn : sweet n.kind = false) : ((overL n a b).all fun n => !sweet n.kind) = true := by
 have e : ((b.map (shiftNd a.length)).all fun n => !sweet n.kind) = (b.all fun n => !sweet n.kind) := by
  rw [List.all_map]; rfl
 unfold overL
 rw [List.all_append, List.all_append, ha, e, hb]
 simp [hn]
theorem G.over0 {pl : Bool} {n : Nd} (h0 : kidc n.kind = 0) (hf : fieldsB n = true) (hp : pl = true → sweet n.kind = false) : G (!(regKind n.kind)) pl (overL n [] []) :=
 ⟨may_over0 h0 hf, by rw [over_last, Bool.not_not], fun h => over_plain rfl rfl (hp h)⟩
theorem G.over1 {fm pl : Bool} {n : Nd} {a : List Nd} (ha : G fm pl a) (h0 : kidc n.kind = 1) (hf : fieldsB n = true) (ht : takesReg n.kind = !fm) (hp : pl = true → sweet n.kind = false) : G (!(regKind n.kind)) pl (overL n a []) :=
 ⟨may_over1 h0 hf ha.1 (by rw [ha.2.1, ht]), by rw [over_last, Bool.not_not], fun h => over_plain (ha.2.2 h) rfl (hp h)⟩
theorem G.over2 {fm pl : Bool} {n : Nd} {a b : List Nd} (ha : G fm pl a) (hb : G fm pl b) (h0 : kidc n.kind = 2) (hf : fieldsB n = true) (ht : takesReg n.kind = !fm) (hp : pl = true → sweet n.kind = false) : G (!(regKind n.kind)) pl (overL n a b) :=
 ⟨may_over2 h0 hf ha.1 hb.1 (by rw [ha.2.1, ht]) (by rw [hb.2.1, ht]), by rw [over_last, Bool.not_not], fun h => over_plain (ha.2.2 h) (hb.2.2 h) (hp h)⟩
theorem kind_fields {k : Int} (h : (1 ≤ k ∧ k ≤ 7 ∧ k ≠ 3) ∨ (18 ≤ k ∧ k ≤ 22)) : fieldsB (kindNd k) = true := by
 unfold fieldsB nameOkB okSpan timed kindNd
 simp only
 rw [(kinds_range k).2 (by omega), if_neg (by omega), decide_eq_false (show ¬ (8 ≤ k ∧ k ≤ 17) by omega)]
 rfl
theorem prop_fields (n : Int) : fieldsB (propNd n) = true := by
 unfold fieldsB propNd
 by_cases h0 : n % 3 = 0
 ·rw [if_pos h0]; decide
 ·by_cases h1 : n % 3 = 1
  ·rw [if_neg h0, if_pos h1]; decide
  ·rw [if_neg h0, if_neg h1]; decide
theorem span_fields {k n : Int} (h : 8 ≤ k ∧ k ≤ 17) (hn : 0 ≤ n ∧ n ≤ 9000) : fieldsB (spanNd k n) = true := by
 unfold fieldsB nameOkB okSpan timed spanNd
 simp only
 rw [(kinds_range k).2 (by omega), if_neg (by omega), decide_eq_true h, if_pos rfl]
 have : Ival.mayS (spanLo n) (spanHi n) = true := by
  unfold Ival.mayS
  refine decide_eq_true ?_
  unfold spanHi spanLo
  split <;> split <;> omega
 rw [this]
 rfl
theorem split_last {α : Type} {l : List α} {d : α} (h : ¬ l.length < 1) : l = l.take (l.length - 1) ++ [l.getD (l.length - 1) d] := by
 have h1 : l.length - 1 < l.length := by omega
 have := List.take_append_drop (l.length - 1) l
 rw [List.drop_eq_getElem_cons h1, List.drop_eq_nil_of_le (by omega)] at this
 rw [List.getD_eq_getElem?_getD, List.getElem?_eq_getElem h1]
 exact this.symm
theorem split_two {α : Type} {l : List α} {d : α} (h : ¬ l.length < 2) : l = l.take (l.length - 2) ++ [l.getD (l.length - 2) d, l.getD (l.length - 1) d] := by
 have h1 : l.length - 2 < l.length := by omega
 have h2 : l.length - 1 < l.length := by omega
 have := List.take_append_drop (l.length - 2) l
 rw [List.drop_eq_getElem_cons h1, show l.length - 2 + 1 = l.length - 1 by omega, List.drop_eq_getElem_cons h2, List.drop_eq_nil_of_le (by omega)] at this
 rw [List.getD_eq_getElem?_getD, List.getElem?_eq_getElem h1, List.getD_eq_getElem?_getD, List.getElem?_eq_getElem h2]
 exact this.symm
def tot (l : Ls) : Nat := (l.map List.length).sum
theorem tot_append (a b : Ls) : tot (a ++ b) = tot a + tot b := by
 unfold tot
 rw [List.map_append, List.sum_append]
theorem tot_one (x : List Nd) : tot [x] = x.length := by simp [tot]
theorem tot_two (x y : List Nd) : tot [x, y] = x.length + y.length := by simp [tot]
theorem tot_mem {l : Ls} {x : List Nd} (h : x ∈ l) : x.length ≤ tot l := by
 induction l with
 | nil => simp at h
 | cons y l ih =>
  have e : tot (y :: l) = y.length + tot l := by simp [tot]
  rw [e]
  rcases List.mem_cons.1 h with rfl | h
  ·omega
  ·have := ih h; omega
theorem tot_len {l : Ls} (h : ∀ x ∈ l, 0 < x.length) : l.length ≤ tot l := by
 induction l with
 | nil => simp
 | cons y l ih =>
  have e : tot (y :: l) = y.length + tot l := by simp [tot]
  have h1 := h y List.mem_cons_self
  have h2 := ih fun x hx => h x (List.mem_cons_of_mem _ hx)
  rw [e, List.length_cons]; omega
def AllG (fm pl : Bool) (l : Ls) : Prop := ∀ x ∈ l, G fm pl x
theorem AllG.snoc {fm pl : Bool} {l : Ls} {x : List Nd} (h : AllG fm pl l) (hx : G fm pl x) : AllG fm pl (l ++ [x]) := fun y hy => by
 rcases List.mem_append.1 hy with hy | hy
 ·exact h y hy
 ·rw [List.mem_singleton.1 hy]; exact hx
theorem AllG.take {fm pl : Bool} {l : Ls} (h : AllG fm pl l) (k : Nat) : AllG fm pl (l.take k) := fun y hy => h y (List.mem_of_mem_take hy)
theorem AllG.at {fm pl : Bool} {l : Ls} (h : AllG fm pl l) {k : Nat} (hk : k < l.length) : G fm pl (l.getD k []) := by
 rw [List.getD_eq_getElem?_getD, List.getElem?_eq_getElem hk]
 exact h _ (List.getElem_mem hk)
theorem one_ok {fm pl : Bool} {l : Ls} {n : Nd} (h : AllG fm pl l) (hn : regKind n.kind = !fm) (h0 : kidc n.kind = 1) (hf : fieldsB n = true) (ht : takesReg n.kind = !fm) (hp : pl = true → sweet n.kind = false) : AllG fm pl (oneL l n) ∧ tot (oneL l n) ≤ tot l + 1 := by
 unfold oneL
 by_cases hl : l.length < 1
 ·rw [if_pos hl]; exact ⟨h, by omega⟩
 ·rw [if_neg hl]
  refine ⟨(h.take _).snoc ?_, ?_⟩
  ·have := (h.at (k := l.length - 1) (by omega)).over1 h0 hf ht hp
   rw [hn, Bool.not_not] at this
   exact this
  ·have e := congrArg tot (split_last (d := []) hl)
   rw [tot_append, tot_one] at e
   rw [tot_append, tot_one, over_len, e, List.length_nil]; omega
theorem two_ok {fm pl : Bool} {l : Ls} {n : Nd} (h : AllG fm pl l) (hn : regKind n.kind = !fm) (h0 : kidc n.kind = 2) (hf : fieldsB n = true) (ht : takesReg n.kind = !fm) (hp : pl = true → sweet n.kind = false) : AllG fm pl (twoL l n) ∧ tot (twoL l n) ≤ tot l + 1 := by
 unfold twoL
 by_cases hl : l.length < 2
 ·rw [if_pos hl]; exact ⟨h, by omega⟩
 ·rw [if_neg hl]
  refine ⟨(h.take _).snoc ?_, ?_⟩
  ·have := (h.at (k := l.length - 2) (by omega)).over2 (h.at (k := l.length - 1) (by omega)) h0 hf ht hp
   rw [hn, Bool.not_not] at this
   exact this
  ·have e := congrArg tot (split_two (d := []) hl)
   rw [tot_append, tot_two] at e
   rw [tot_append, tot_one, over_len, e]; omega
structure PileOk (pl : Bool) (k : Nat) (P : Ls × Ls) : Prop where
 f : AllG true pl P.1
 r : AllG false pl P.2
 t : tot P.1 + tot P.2 ≤ k
theorem single_ok {fm pl : Bool} {n : Nd} (hk : n.kids = []) (hn : regKind n.kind = !fm) (h0 : kidc n.kind = 0) (hf : fieldsB n = true) (hp : pl = true → sweet n.kind = false) : G fm pl [n] := by
 have := G.over0 (pl := pl) h0 hf hp
 rw [hn, Bool.not_not] at this
 have e : overL n [] [] = [n] := by
  obtain ⟨k, nm, lo, hi, ks⟩ := n
  simp only at hk
  subst hk
  rfl
 rw [← e]; exact this
theorem add_ok {pl : Bool} {op arg : Int} {k : Nat} {P : Ls × Ls} (h : PileOk pl k P) (hop : 0 ≤ op ∧ op ≤ 23) (harg : 0 ≤ arg ∧ arg ≤ 9000) (hpl : pl = true → ¬ (7 ≤ op ∧ op ≤ 15)) : PileOk pl (k + 1) (addL op arg P.1 P.2) := by
 obtain ⟨F, R⟩ := P
 obtain ⟨hf, hr, ht⟩ := h
 simp only at hf hr ht
 have ns : ∀ x : Int, x ≠ 7 → ¬ (8 ≤ x ∧ x ≤ 15) → sweet x = false := fun x h1 h2 => by unfold sweet; rw [decide_eq_false h1, decide_eq_false h2]; rfl
 unfold addL
 by_cases c0 : op = 0
 ·rw [if_pos c0]
  have h1 : arg % 2 = 0 ∨ arg % 2 = 1 := by omega
  refine ⟨hf.snoc ?_, hr, by simp only; rw [tot_append, tot_one, List.length_singleton]; omega⟩
  rcases h1 with e | e
  ·rw [e]; exact single_ok rfl (by decide) (by decide) (kind_fields (by omega)) (fun _ => by decide)
  ·rw [e]; exact single_ok rfl (by decide) (by decide) (kind_fields (by omega)) (fun _ => by decide)
 rw [if_neg c0]
 by_cases c1 : op ≤ 3
 ·rw [if_pos c1]
  exact ⟨hf.snoc (single_ok rfl (show regKind 3 = _ by decide) (show kidc 3 = 0 by decide) (prop_fields _) (fun _ => show sweet 3 = false by decide)), hr, by simp only; rw [tot_append, tot_one, List.length_singleton]; omega⟩
 rw [if_neg c1]
 by_cases c2 : op = 4
 ·rw [if_pos c2]
  obtain ⟨a, b⟩ := one_ok (n := kindNd 4) hf (show regKind 4 = _ by decide) (show kidc 4 = 1 by decide) (kind_fields (by omega)) (show takesReg 4 = _ by decide) (fun _ => show sweet 4 = false by decide)
  exact ⟨a, hr, by simp only; omega⟩
 rw [if_neg c2]
 by_cases c3 : op ≤ 7
 ·rw [if_pos c3]
  have e : op = 5 ∨ op = 6 ∨ op = 7 := by omega
  have key : regKind op = !true ∧ kidc op = 2 ∧ takesReg op = !true := by rcases e with rfl | rfl | rfl <;> decide
  obtain ⟨a, b⟩ := two_ok (n := kindNd op) (pl := pl) hf key.1 key.2.1 (kind_fields (by omega)) key.2.2 (fun hp => ns op (by have := hpl hp; omega) (by omega))
  exact ⟨a, hr, by simp only; omega⟩
 rw [if_neg c3]
 by_cases c4 : op ≤ 13
 ·rw [if_pos c4]
  have e : op = 8 ∨ op = 9 ∨ op = 10 ∨ op = 11 ∨ op = 12 ∨ op = 13 := by omega
  have key : regKind op = !true ∧ kidc op = 1 ∧ takesReg op = !true := by rcases e with rfl | rfl | rfl | rfl | rfl | rfl <;> decide
  obtain ⟨a, b⟩ := one_ok (n := spanNd op arg) (pl := pl) hf key.1 key.2.1 (span_fields (by omega) harg) key.2.2 (fun hp => absurd (hpl hp) (by omega))
  exact ⟨a, hr, by simp only; omega⟩
 rw [if_neg c4]
 by_cases c5 : op ≤ 15
 ·rw [if_pos c5]
  have e : op = 14 ∨ op = 15 := by omega
  have key : regKind op = !true ∧ kidc op = 2 ∧ takesReg op = !true := by rcases e with rfl | rfl <;> decide
  obtain ⟨a, b⟩ := two_ok (n := spanNd op arg) (pl := pl) hf key.1 key.2.1 (span_fields (by omega) harg) key.2.2 (fun hp => absurd (hpl hp) (by omega))
  exact ⟨a, hr, by simp only; omega⟩
 rw [if_neg c5]
 by_cases c6 : op ≤ 17
 ·rw [if_pos c6]
  by_cases hl : R.length < 1
  ·rw [if_pos hl]; exact ⟨hf, hr, by simp only; omega⟩
  ·rw [if_neg hl]
   have e : op = 16 ∨ op = 17 := by omega
   have key : regKind op = !true ∧ kidc op = 1 ∧ takesReg op = !false ∧ sweet op = false := by rcases e with rfl | rfl <;> decide
   have hx := (hr.at (k := R.length - 1) (by omega)).over1 (n := spanNd op arg) key.2.1 (span_fields (by omega) harg) key.2.2.1 (fun _ => key.2.2.2)
   rw [show regKind (spanNd op arg).kind = !true from key.1, Bool.not_not] at hx
   have e := congrArg tot (split_last (d := []) hl)
   rw [tot_append, tot_one] at e
   exact ⟨hf.snoc hx, hr.take _, by simp only; rw [tot_append, tot_one, over_len, List.length_nil]; omega⟩
 rw [if_neg c6]
 by_cases c7 : op ≤ 19
 ·rw [if_pos c7]
  exact ⟨hf, hr.snoc (single_ok rfl (show regKind 18 = _ by decide) (show kidc 18 = 0 by decide) (kind_fields (by omega)) (fun _ => show sweet 18 = false by decide)), by simp only; rw [tot_append, tot_one, List.length_singleton]; omega⟩
 rw [if_neg c7]
 by_cases c8 : op = 20
 ·rw [if_pos c8]
  by_cases hl : F.length < 1
  ·rw [if_pos hl]; exact ⟨hf, hr, by simp only; omega⟩
  ·rw [if_neg hl]
   have hx := (hf.at (k := F.length - 1) (by omega)).over1 (n := kindNd 19) (show kidc 19 = 1 by decide) (kind_fields (by omega)) (show takesReg 19 = _ by decide) (fun _ => show sweet 19 = false by decide)
   rw [show regKind (kindNd 19).kind = !false by decide, Bool.not_not] at hx
   have e := congrArg tot (split_last (d := []) hl)
   rw [tot_append, tot_one] at e
   exact ⟨hf.take _, hr.snoc hx, by simp only; rw [tot_append, tot_one, over_len, List.length_nil]; omega⟩
 rw [if_neg c8]
 by_cases c9 : op ≤ 22
 ·rw [if_pos c9]
  have e : op = 21 ∨ op = 22 := by omega
  have key : regKind (op - 1) = !false ∧ kidc (op - 1) = 2 ∧ takesReg (op - 1) = !false ∧ sweet (op - 1) = false := by rcases e with rfl | rfl <;> decide
  obtain ⟨a, b⟩ := two_ok (n := kindNd (op - 1)) (pl := pl) hr key.1 key.2.1 (kind_fields (by omega)) key.2.2.1 (fun _ => key.2.2.2)
  exact ⟨hf, a, by simp only; omega⟩
 rw [if_neg c9]
 obtain ⟨a, b⟩ := one_ok (n := kindNd 22) (pl := pl) hr (show regKind 22 = _ by decide) (show kidc 22 = 1 by decide) (kind_fields (by omega)) (show takesReg 22 = _ by decide) (fun _ => show sweet 22 = false by decide)
 exact ⟨hf, a, by simp only; omega⟩
def opOf (pl : Bool) (z : Int) : Int := if pl = true then plainer (z % 24) else z % 24
def buildN (pl : Bool) (zs : List Int) : Ls × Ls := zs.foldl (fun P z => addL (opOf pl z) (z / 24) P.1 P.2) ([], [])
theorem op_range (pl : Bool) (z : Int) : (0 ≤ opOf pl z ∧ opOf pl z ≤ 23) ∧ (pl = true → ¬ (7 ≤ opOf pl z ∧ opOf pl z ≤ 15)) := by
 have h : 0 ≤ z % 24 ∧ z % 24 ≤ 23 := by omega
 generalize hk : z % 24 = k at h
 unfold opOf
 rw [hk]
 cases pl with
 | true =>
  rw [if_pos rfl]
  unfold plainer
  split
  ·omega
  ·split
   ·omega
   ·split
    ·omega
    ·split <;> omega
 | false => rw [if_neg (by decide)]; exact ⟨h, fun e => by cases e⟩
theorem build_snoc (pl : Bool) (zs : List Int) (z : Int) : buildN pl (zs ++ [z]) = addL (opOf pl z) (z / 24) (buildN pl zs).1 (buildN pl zs).2 := by
 unfold buildN
 rw [List.foldl_append]; rfl
theorem build_ok (pl : Bool) (zs : List Int) (h : ∀ z ∈ zs, 0 ≤ z ∧ z ≤ 65535) : ∀ k, k ≤ zs.length → PileOk pl k (buildN pl (zs.take k)) := by
 intro k
 induction k with
 | zero => intro _; exact ⟨fun x hx => by simp [buildN] at hx, fun x hx => by simp [buildN] at hx, by simp [buildN, tot]⟩
 | succ k ih =>
  intro hk
  rw [List.take_succ_eq_append_getElem (by omega), build_snoc]
  have hz := h zs[k] (List.getElem_mem (by omega))
  have ho := op_range pl zs[k]
  exact add_ok (ih (by omega)) ho.1 (by omega) ho.2
def buildL (pl : Bool) (zs : List Int) : Ls × Ls := buildN pl (zs.take 100)
def lastOr (l : Ls) (d : List Nd) : List Nd := if l.length = 0 then d else l.getD (l.length - 1) []
def makeL (pl : Bool) (zs : List Int) : List Nd := lastOr (buildL pl zs).1 [kindNd 1]
theorem buildL_ok (pl : Bool) (zs : List Int) (h : ∀ z ∈ zs, 0 ≤ z ∧ z ≤ 65535) : PileOk pl 100 (buildL pl zs) := by
 unfold buildL
 have := build_ok pl (zs.take 100) (fun z hz => h z (List.mem_of_mem_take hz)) (zs.take 100).length (Nat.le_refl _)
 rw [List.take_length] at this
 exact ⟨this.f, this.r, Nat.le_trans this.t (List.length_take_le _ _)⟩
theorem lastOr_ok {fm pl : Bool} {l : Ls} {d : List Nd} (h : AllG fm pl l) (hd : G fm pl d) (hdl : d.length ≤ 100) (ht : tot l ≤ 100) : G fm pl (lastOr l d) ∧ (lastOr l d).length ≤ 100 := by
 unfold lastOr
 by_cases h0 : l.length = 0
 ·rw [if_pos h0]; exact ⟨hd, hdl⟩
 ·rw [if_neg h0]
  refine ⟨h.at (by omega), ?_⟩
  rw [List.getD_eq_getElem?_getD, List.getElem?_eq_getElem (show l.length - 1 < l.length by omega)]
  exact Nat.le_trans (tot_mem (List.getElem_mem _)) ht
theorem make_ok (pl : Bool) (zs : List Int) (h : ∀ z ∈ zs, 0 ≤ z ∧ z ≤ 65535) : G true pl (makeL pl zs) ∧ (makeL pl zs).length ≤ 100 := by
 have hb := buildL_ok pl zs h
 exact lastOr_ok hb.f (single_ok rfl (show regKind 1 = _ by decide) (show kidc 1 = 0 by decide) (kind_fields (by omega)) (fun _ => show sweet 1 = false by decide)) (by decide) (by have := hb.t; omega)
end Go.Proofs.YtdbgaccnejffpaaGreatDoor.Tree
