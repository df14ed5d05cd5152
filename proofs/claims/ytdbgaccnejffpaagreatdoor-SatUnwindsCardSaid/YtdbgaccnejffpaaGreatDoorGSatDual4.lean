/-
  Rows of nodes of the call's own: what they read as, append of one and of many. By an AI agent.
  Two nodes are one, or not. By an AI agent.
  Tokens in plain lists of bytes. Tokens in plain lists of bytes: blanks, numbers, the laws' own texts. Tokens in plain lists of bytes: a number as it is written; one word, blanks alone. Tokens in plain lists of bytes: what each branch of a walk says of the piece that begins. Rows of tokens in memory: append of one; what a walk reads. Texts, byte by byte: what the walks share. The walks of the reference's small, digit and run. The walks of the reference's Reserved and Name.
    Made of several texts by wip/tools/mergetpl.py. By an AI agent.
  Kinds of nodes in plain arithmetic, and the reference's small functions on them. Lists of nodes that may be, as a run over the nodes with the open ones. What is told of lists of nodes, as plain functions.
    Made of several texts by wip/tools/mergetpl.py. By an AI agent.
  The walk of the reference's May. By an AI agent.
  What calls leave that hand back nodes; kids moved. By an AI agent.
  The part of TreeBase that speaks of functions which not every seat has. By an AI agent.
-/
import Derived.Test.YtdbgaccnejffpaaGreatDoorGSatDual3
import Derived.Maps.AppendAt
import Derived.Laws.AppendOwnNone
import Derived.Lib.ItoaNum
import Derived.Test.YtdbgaccnejffpaaGreatDoorChecked
import Derived.WalkKit
import Derived.Below
import Derived.Laws.AppendOwn
import Derived.Lib.Hide
import Derived.Sort.OwnSorted
import Derived.WalkSpells
import Derived.WalkLawsBesides
import Derived.Lib.MinMax
import Derived.IntWalk
import Derived.OwnWalk
import Derived.Test.YtdbgaccnejffpaaGreatDoorGSatDual1
import Derived.Deep.Slices
import Derived.Deep.Fields
import Derived.ChangeSame
import Derived.ChangeArms
import Derived.ChangeSlices
import Derived.Laws.StructEq
import Derived.Deep.QuietTactic
import Derived.BigQuiet
import Derived.Deep.RegionHeld
namespace Go.Proofs.YtdbgaccnejffpaaGreatDoor.Tree
open Go.RowKit Go.Proofs.YtdbgaccnejffpaaGreatDoor.Ints
abbrev SNd := Nd × Option Addr × Nat
def cellsS (s : SNd) : List Value := [.int .i64 s.1.kind, .string s.1.name, .int .i64 s.1.lo, .int .i64 s.1.hi, .slice s.2.1 s.1.kids.length s.2.2]
def rowS (l : List SNd) : List Value := l.flatMap cellsS
def KidOk (S : Nat → Prop) (w : World) (s : SNd) : Prop := NodeOk w s.1 s.2.1 s.2.2 ∧ ∀ a, s.2.1 = some a → 0 < s.1.kids.length → S a.block
theorem KidOk.keep {S : Nat → Prop} {w w' : World} {s : SNd} (h : KidOk S w s) (hk : ∀ p u, S p.block → w.cell? p = some u → w'.cell? p = some u) : KidOk S w' s := by
 obtain ⟨⟨h5, h6, h7, h8, h10, h11, h12⟩, h14⟩ := h
 refine ⟨⟨h5, h6, h7, h8, ⟨h10.1, h10.2.1, fun h0 => ?_⟩, h11, h12⟩, h14⟩
 obtain ⟨b', off, e, hc⟩ := h10.2.2 h0
 exact ⟨b', off, e, fun j hj => hk ⟨b', off + j, none⟩ _ (h14 ⟨b', off, none⟩ e h0) (hc j hj)⟩
theorem KidOk.mono {S S' : Nat → Prop} {w : World} {s : SNd} (h : KidOk S w s) (hs : ∀ b, b < w.heap.size → S b → S' b) : KidOk S' w s := by
 obtain ⟨⟨h5, h6, h7, h8, h10, h11, h12⟩, h14⟩ := h
 refine ⟨⟨h5, h6, h7, h8, h10, h11, h12⟩, fun a e h0 => ?_⟩
 obtain ⟨b', off, e', hc⟩ := h10.2.2 h0
 rw [e] at e'
 injection e' with e'
 subst e'
 exact hs _ (World.block_lt_of_cell? w _ (hc 0 h0)) (h14 _ e h0)
theorem KidOk.below {S : Nat → Prop} {w w' : World} {s : SNd} (h : KidOk S w s) (hb : Below w.heap.size w w') : KidOk S w' s :=
 h.keep fun p _ _ hp => (hb.cell (World.block_lt_of_cell? w p hp)).trans hp
theorem rowS_len (l : List SNd) : (rowS l).length = l.length * 5 := by
 induction l with
 | nil => rfl
 | cons t l ih =>
  simp only [rowS, List.flatMap_cons, List.length_append, List.length_cons] at ih ⊢
  rw [ih]
  show 5 + l.length * 5 = (l.length + 1) * 5
  omega
theorem rowS_append (l m : List SNd) : rowS (l ++ m) = rowS l ++ rowS m := List.flatMap_append
theorem rowS_at : ∀ (l : List SNd) (j : Nat) (t : SNd), l[j]? = some t → ∀ f, f < 5 → (rowS l)[5 * j + f]? = (cellsS t)[f]?
 | [], j, t, h, _, _ => by simp at h
 | x :: l, 0, t, h, f, hf => by
  simp only [List.getElem?_cons_zero, Option.some.injEq] at h
  subst h
  show (cellsS x ++ rowS l)[5 * 0 + f]? = _
  rw [Nat.mul_zero, Nat.zero_add, List.getElem?_append_left (by exact hf)]
 | x :: l, j + 1, t, h, f, hf => by
  have ih := rowS_at l j t (by simpa using h) f hf
  show (cellsS x ++ rowS l)[5 * (j + 1) + f]? = _
  rw [List.getElem?_append_right (by show 5 ≤ _; omega), ← ih]
  congr 1
  show 5 * (j + 1) + f - 5 = _
  omega
theorem cellsS_one (t : SNd) : ∀ u ∈ cellsS t, u.oneCell' = true := by
 intro u hu
 simp only [cellsS, List.mem_cons, List.not_mem_nil, or_false] at hu
 rcases hu with rfl | rfl | rfl | rfl | rfl <;> rfl
theorem rowS_one (l : List SNd) : ∀ u ∈ rowS l, u.oneCell' = true := by
 intro u hu
 obtain ⟨s, -, hs⟩ := List.mem_flatMap.1 hu
 exact cellsS_one s u hs
def OwnNodes (S : Nat → Prop) (w : World) (base : Nat) (v : Value) (l : List SNd) : Prop :=
 w.ownsRow base 37 5 v l.length (rowS l) ∧ ∀ s ∈ l, KidOk (fun b => S b ∧ some b ≠ v.ownBlock) w s
theorem OwnNodes.made (S : Nat → Prop) (w : World) (base : Nat) (hb : base ≤ w.heap.size) : OwnNodes S (w.alloc (.cells #[] 37)) base (.slice (some ⟨w.heap.size, 0, none⟩) 0 0) [] :=
 ⟨World.ownsRow_made w #[] 0 hb (by decide) rfl, fun s hs => by simp at hs⟩
theorem OwnNodes.keep {S : Nat → Prop} {w w' : World} {base : Nat} {v : Value} {l : List SNd} {row : Option Nat} (h : OwnNodes S w base v l) (hg : w.grownBy w' row) (hne : v.ownBlock = none ∨ v.ownBlock ≠ row) (hs : ∀ b, S b → some b ≠ row) : OwnNodes S w' base v l :=
 ⟨h.1.kept hg hne, fun s hs' => (h.2 s hs').keep fun _ _ hp hc => hg.cell hc (hs _ hp.1)⟩
theorem OwnNodes.below {S : Nat → Prop} {w w' : World} {base : Nat} {v : Value} {l : List SNd} (h : OwnNodes S w base v l) (hb : Below w.heap.size w w') : OwnNodes S w' base v l :=
 ⟨below_row h.1 hb, fun s hs => (h.2 s hs).below hb⟩
theorem OwnNodes.mono {S S' : Nat → Prop} {w : World} {base : Nat} {v : Value} {l : List SNd} (h : OwnNodes S w base v l) (hs : ∀ b, b < w.heap.size → S b → S' b) : OwnNodes S' w base v l :=
 ⟨h.1, fun s hs' => (h.2 s hs').mono fun b hb hp => ⟨hs b hb hp.1, hp.2⟩⟩
theorem OwnNodes.reads {S : Nat → Prop} {w : World} {base : Nat} {v : Value} {l : List SNd} (h : OwnNodes S w base v l) (hS : ∀ b, base ≤ b → b < w.heap.size → S b) :
  ∃ A c, v = .slice A l.length c ∧ Nodes S w A (l.map (·.1)) ∧ l.length ≤ c ∧ c ≤ maxLen := by
 obtain ⟨h1, h2⟩ := h
 have hlt := h1.lt
 have h1' := h1
 rcases h1.2 with ⟨rfl, h0⟩ | ⟨g, cap, cur, rfl, _, _, h3, h4, _⟩
 ·exact ⟨none, 0, by rw [h0], fun hp => by simp at hp; omega, by omega, by decide⟩
 ·refine ⟨_, cap, rfl, fun _ => ⟨g, 0, rfl, fun j n hj => ?_⟩, h3, h4⟩
  rw [List.getElem?_map] at hj
  obtain ⟨s, hs, rfl⟩ := Option.map_eq_some_iff.1 hj
  have hjl : j < l.length := (List.getElem?_eq_some_iff.1 hs).1
  have key : ∀ f, f < 5 → w.cell? ⟨g, 0 + 5 * j + f, none⟩ = (cellsS s)[f]? := fun f hf => by
   rw [Nat.zero_add, h1'.cellAt (5 * j + f) (by omega)]
   exact rowS_at l j s hs f hf
  obtain ⟨⟨k5, k6, k7, k8, k10, k11, k12⟩, k14⟩ := h2 s (List.mem_of_getElem? hs)
  have hg := hlt g rfl
  exact ⟨key 0 (by omega), key 1 (by omega), key 2 (by omega), key 3 (by omega), k5, k6, k7, k8, s.2.1, s.2.2, key 4 (by omega), k10, k11, k12, hS _ hg.1 hg.2, fun a e h0 => (k14 a e h0).1⟩
theorem Nodes.stored {S : Nat → Prop} {w : World} {A : Option Addr} {l : List Nd} (h : Nodes S w A l) :
  ∃ σ : List SNd, σ.map (·.1) = l ∧ (∀ s ∈ σ, KidOk S w s) ∧ (0 < l.length → ∃ b off, A = some ⟨b, off, none⟩ ∧ S b ∧ ∀ (j : Nat) (s : SNd), σ[j]? = some s → ∀ f, f < 5 → w.cell? ⟨b, off + 5 * j + f, none⟩ = (cellsS s)[f]?) := by
 by_cases h0 : 0 < l.length
 ·obtain ⟨b, off, rfl, hn⟩ := h h0
  have one : ∀ (l' : List Nd) (i : Nat), (∀ j n, l'[j]? = some n → NodeAt S w b (off + 5 * (i + j)) n) →
    ∃ σ : List SNd, σ.map (·.1) = l' ∧ (∀ s ∈ σ, KidOk S w s) ∧ ∀ (j : Nat) (s : SNd), σ[j]? = some s → ∀ f, f < 5 → w.cell? ⟨b, off + 5 * (i + j) + f, none⟩ = (cellsS s)[f]? := by
   intro l'
   induction l' with
   | nil => intro i _; exact ⟨[], rfl, fun s hs => by simp at hs, fun j s hs => by simp at hs⟩
   | cons n l' ih =>
    intro i hi
    obtain ⟨σ, e1, e2, e3⟩ := ih (i + 1) (fun j x hj => by rw [show i + 1 + j = i + (j + 1) by omega]; exact hi (j + 1) x (by simpa using hj))
    obtain ⟨x0, x1, x2, x3, s0, s2, s3, s1, K, c, x4, hK, hKc, hcK, hb, hKs⟩ := hi 0 n rfl
    refine ⟨(n, K, c) :: σ, by rw [List.map_cons, e1], fun s hs => ?_, fun j s hj f hf => ?_⟩
    ·rcases List.mem_cons.1 hs with rfl | hs
     ·exact ⟨⟨s0, s2, s3, s1, hK, hKc, hcK⟩, hKs⟩
     ·exact e2 s hs
    ·cases j with
     | zero =>
      simp only [List.getElem?_cons_zero, Option.some.injEq] at hj
      subst hj
      match f, hf with
      | 0, _ => exact x0
      | 1, _ => exact x1
      | 2, _ => exact x2
      | 3, _ => exact x3
      | 4, _ => exact x4
     | succ j =>
      rw [show i + (j + 1) = i + 1 + j by omega]
      exact e3 j s (by simpa using hj) f hf
  obtain ⟨σ, e1, e2, e3⟩ := one l 0 (fun j n hj => by rw [Nat.zero_add]; exact hn j n hj)
  obtain ⟨n, hn0⟩ : ∃ n, l[0]? = some n := ⟨_, List.getElem?_eq_getElem h0⟩
  obtain ⟨-, -, -, -, -, -, -, -, -, -, -, -, -, -, hb, -⟩ := hn 0 n hn0
  exact ⟨σ, e1, e2, fun _ => ⟨b, off, rfl, hb, fun j s hs f hf => by have := e3 j s hs f hf; rwa [Nat.zero_add] at this⟩⟩
 ·have : l = [] := List.eq_nil_of_length_eq_zero (by omega)
  subst this
  exact ⟨[], rfl, fun s hs => by simp at hs, fun h => absurd h h0⟩
theorem infoNode : (Tryz.prog.info? 37).map (fun i => (i.zero, i.size, i.bytes)) = some (some (.agg #[.int .i64 0, .string { data := #[] }, .int .i64 0, .int .i64 0, .slice none 0 0]), 5, 64) := by kernel_rfl
theorem own_grown {S : Nat → Prop} {w1 w' : World} {base : Nat} {v v' : Value} {σ τ : List SNd} (h2 : ∀ s ∈ σ, KidOk (fun b => S b ∧ some b ≠ v.ownBlock) w1 s) (k2 : ∀ s ∈ τ, KidOk (fun b => S b ∧ some b ≠ v.ownBlock) w1 s)
  (hr : w'.ownsRow base 37 5 v' (σ ++ τ).length (rowS (σ ++ τ))) (hg : w1.grownBy w' v.ownBlock) (hat : v'.ownBlock = v.ownBlock ∨ v'.ownBlock = some w1.heap.size) : OwnNodes S w' base v' (σ ++ τ) := by
 refine ⟨hr, fun s hs => ?_⟩
 have h3 : KidOk (fun b => S b ∧ some b ≠ v.ownBlock) w1 s := (List.mem_append.1 hs).elim (h2 s) (k2 s)
 have h4 := (h3.mono (S' := fun b => (S b ∧ some b ≠ v.ownBlock) ∧ b < w1.heap.size) fun b hb hp => ⟨hp, hb⟩).keep (w' := w') fun _ _ hp hc => hg.cell hc hp.1.2
 exact h4.mono fun b _ hp => ⟨hp.1.1, by
  rcases hat with e | e
  ·rw [e]; exact hp.1.2
  ·rw [e]; intro e2; injection e2 with e2; omega⟩
section
variable {P : Program} {w : World}
theorem wpList_append_nd {ops : Array Oper} {rest : List Oper} {o : Oper} {a : Act} {Q : Exit → Act → World → Prop} (hgd : o.guard = none) (s x : Operand) (t : TypeId)
  (ho : o.op = .call { callee := .builtin .append, args := #[s, x], argTypes := #[t, t] }) (base : Nat) (i : TypeInfo) (z : Value)
  (ht : P.underlying t = some (.slice 37)) (hi : P.info? 37 = some i) (hz : i.zero = some z) (hsize : i.size = 5) (hby : i.bytes = 64) (hzs : z.cells.size = 5)
  (v : Value) (l : List SNd) (hs : a.eval s = v) (S : Nat → Prop) (hown : OwnNodes S w base v l)
  (sn : SNd) (hk : KidOk (fun b => S b ∧ some b ≠ v.ownBlock) w sn) (T : TypeId) (cs : Array Value) (hcs : cs = (cellsS sn).toArray) (H : Nat) (hH : w.heap.size = H) (hx : a.eval x = .slice (some ⟨H, 0, none⟩) 1 1)
  (hl : l.length ≤ 4194304) (hbase : base ≤ w.heap.size)
  (h : ∀ v' w', OwnNodes S w' base v' (l ++ [sn]) → (w.alloc (.cells cs T)).grownBy w' v.ownBlock → (v'.ownBlock = v.ownBlock ∨ v'.ownBlock = some (w.alloc (.cells cs T)).heap.size) → wpList P ops Q rest (a.put o.dst v') w') : wpList P ops Q (o :: rest) a (w.alloc (.cells cs T)) := by
 subst hcs
 subst hH
 refine wpList_plain hgd fun K hK => ?_
 obtain ⟨v', w', hrun, h1, h2, -, h4⟩ := run_append_own_at (P := P) (w.alloc (.cells (cellsS sn).toArray T)) base t o.type 37 i z 5 64 ht hi hz hsize hby hzs (by decide) v l.length (rowS l) (hown.1.alloc _) ⟨w.heap.size, 0, none⟩ 1 1 (cellsS sn) rfl (fun j u hu => by
   rw [show (⟨w.heap.size, 0, none⟩ : Addr).add j = ⟨w.heap.size, j, none⟩ by unfold Addr.add; split <;> simp_all]
   rw [cell_of_row _ w.heap.size j _ T (0, 0) (heap_alloc_new w _)]
   simpa using hu) (cellsS_one sn) (by have : maxLen = 9223372036854775807 := rfl; omega) (by omega) (by simp; omega)
 unfold Oper.wp
 simp [execOp, ho, resolve, invoke, builtin, hs, hx, hrun, Result.andThen]
 refine hK _ _ (h v' w' (own_grown (w1 := w.alloc (.cells (cellsS sn).toArray T)) (fun s hs => (hown.2 s hs).below ((Below.refl _ _).alloc (Nat.le_refl _) _)) (fun s hs => by rw [List.mem_singleton.1 hs]; exact hk.below ((Below.refl _ _).alloc (Nat.le_refl _) _)) ?_ h2 h4) h2 h4)
 rw [rowS_append, List.length_append]
 have e : rowS [sn] = cellsS sn := by simp [rowS]
 rw [e]
 exact h1
theorem wpList_append_nds {ops : Array Oper} {rest : List Oper} {o : Oper} {a : Act} {Q : Exit → Act → World → Prop} (hgd : o.guard = none) (s x : Operand) (t : TypeId)
  (ho : o.op = .call { callee := .builtin .append, args := #[s, x], argTypes := #[t, t] }) (base : Nat) (i : TypeInfo) (z : Value)
  (ht : P.underlying t = some (.slice 37)) (hi : P.info? 37 = some i) (hz : i.zero = some z) (hsize : i.size = 5) (hby : i.bytes = 64) (hzs : z.cells.size = 5)
  (v : Value) (l : List SNd) (hs : a.eval s = v) (S : Nat → Prop) (hown : OwnNodes S w base v l)
  (A : Option Addr) (n c : Nat) (m : List Nd) (hm : m.length = n) (hx : a.eval x = .slice A n c) (hnd : Nodes (fun b => S b ∧ some b ≠ v.ownBlock) w A m)
  (hl : l.length + n ≤ 4194304) (hbase : base ≤ w.heap.size)
  (h : ∀ v' w' τ, τ.map (·.1) = m → OwnNodes S w' base v' (l ++ τ) → w.grownBy w' v.ownBlock → (v'.ownBlock = v.ownBlock ∨ v'.ownBlock = some w.heap.size) → wpList P ops Q rest (a.put o.dst v') w') : wpList P ops Q (o :: rest) a w := by
 obtain ⟨τ, e1, e2, e3⟩ := hnd.stored
 have hτ : τ.length = n := by rw [← hm, ← e1, List.length_map]
 refine wpList_plain hgd fun K hK => ?_
 cases A with
 | some ad =>
  have hnews : ∀ j u, (rowS τ)[j]? = some u → w.cell? (ad.add j) = some u := fun j u hu => by
   have hj : j < (rowS τ).length := (List.getElem?_eq_some_iff.1 hu).1
   rw [rowS_len] at hj
   obtain ⟨b, off, e, -, hc⟩ := e3 (by omega)
   injection e with e
   subst e
   have hq : j / 5 < τ.length := by omega
   have h1 := hc (j / 5) _ (List.getElem?_eq_getElem hq) (j % 5) (Nat.mod_lt _ (by decide))
   have h2 : (⟨b, off, none⟩ : Addr).add j = ⟨b, off + 5 * (j / 5) + j % 5, none⟩ := by
    have : off + j = off + 5 * (j / 5) + j % 5 := by omega
    rw [← this]
    unfold Addr.add; split <;> simp_all
   rw [h2, h1, ← rowS_at τ (j / 5) _ (List.getElem?_eq_getElem hq) (j % 5) (Nat.mod_lt _ (by decide)), ← hu]
   congr 1
   omega
  obtain ⟨v', w', hrun, h1, h2, -, h4⟩ := run_append_own_at (P := P) w base t o.type 37 i z 5 64 ht hi hz hsize hby hzs (by decide) v l.length (rowS l) hown.1 ad n c (rowS τ) (by rw [rowS_len, hτ]) hnews (rowS_one τ) (by have : maxLen = 9223372036854775807 := rfl; omega) (by omega) hbase
  unfold Oper.wp
  simp [execOp, ho, resolve, invoke, builtin, hs, hx, hrun, Result.andThen]
  refine hK _ _ (h v' w' τ e1 (own_grown (w1 := w) hown.2 e2 ?_ h2 h4) h2 h4)
  rw [rowS_append, List.length_append, hτ]
  exact h1
 | none =>
  have hn0 : n = 0 := by
   rcases Nat.eq_zero_or_pos n with h' | h'
   ·exact h'
   ·obtain ⟨_, _, e, _⟩ := e3 (by omega)
    cases e
  subst hn0
  have hτ0 : τ = [] := List.eq_nil_of_length_eq_zero hτ
  subst hτ0
  have hrun : (Builtin.append_ #[t, t] o.type #[v, .slice none 0 c]).run P w = .ok v w := by
   rcases hown.1.2 with ⟨rfl, -⟩ | ⟨g, cap, cur, rfl, _, _, hnc, _⟩
   ·simp [Builtin.append_, run_underlying ht, sizeOf, typeInfo, hi, Builtin.lenOf, Builtin.firstCells]
   ·simp [Builtin.append_, run_underlying ht, sizeOf, typeInfo, hi, Builtin.lenOf, Builtin.firstCells, hnc, storeCells]
  unfold Oper.wp
  simp [execOp, ho, resolve, invoke, builtin, hs, hx, hrun, Result.andThen]
  exact hK _ _ (h v w [] e1 (by rw [List.append_nil]; exact hown) (World.grownBy.refl w _) (Or.inl rfl))
end
end Go.Proofs.YtdbgaccnejffpaaGreatDoor.Tree

namespace Go.Proofs.YtdbgaccnejffpaaGreatDoor.Tree
deriving instance DecidableEq for Nd
theorem le_alloc {a : Nat} {w : World} {o : Obj} (h : a ≤ w.heap.size) : a ≤ (w.alloc o).heap.size := by simp; omega
end Go.Proofs.YtdbgaccnejffpaaGreatDoor.Tree

/- Tokens in plain lists of bytes. By an AI agent. -/
namespace Go.Proofs.YtdbgaccnejffpaaGreatDoor.Lex
def small (c : UInt8) : Bool := decide (97 ≤ c.toNat ∧ c.toNat ≤ 122)
def digit (c : UInt8) : Bool := decide (48 ≤ c.toNat ∧ c.toNat ≤ 57)
def wordB (c : UInt8) : Bool := digit c || small c || decide (c.toNat = 95)
def run (words : Bool) (bs : List UInt8) : Nat := (bs.takeWhile (if words then wordB else digit)).length
def reserved : List (List UInt8) := [[116, 114, 117, 101], [102, 97, 108, 115, 101], [112, 114, 101, 118], [110, 101, 120, 116], [111, 110, 99, 101], [104, 105, 115, 116], [115, 111, 109, 101], [97, 108, 108], [115, 105, 110, 99, 101], [117, 110, 116, 105, 108], [98, 97, 99, 107], [102, 111, 114, 101]]
def nameS (bs : List UInt8) : Bool :=
 match bs with
 | [] => false
 | c :: r => decide (r.length + 1 ≤ 16) && small c && decide (run true (c :: r) = r.length + 1) && !(decide (c :: r ∈ reserved))
end Go.Proofs.YtdbgaccnejffpaaGreatDoor.Lex
/- Tokens in plain lists of bytes: blanks, numbers, the laws' own texts. By an AI agent. -/
namespace Go.Proofs.YtdbgaccnejffpaaGreatDoor.Lex
def table : List (List UInt8 × Nat × List UInt8 × Nat) :=
 [([97], 1, [97], 0), ([98, 50], 1, [98, 50], 0), ([111, 110, 99, 101], 1, [111, 110, 99, 101], 0), ([115, 105, 110, 99, 101], 1, [115, 105, 110, 99, 101], 0), ([102, 111, 114, 101], 1, [102, 111, 114, 101], 0),
  ([48], 2, [], 0), ([55], 2, [], 7), ([57, 57, 57, 57], 2, [], 9999), ([45, 62], 3, [45, 62], 0), ([40], 3, [40], 0), ([41], 3, [41], 0), ([91], 3, [91], 0), ([93], 3, [93], 0), ([123], 3, [123], 0), ([125], 3, [125], 0),
  ([44], 3, [44], 0), ([42], 3, [42], 0), ([46], 3, [46], 0), ([63], 3, [63], 0), ([43], 3, [43], 0), ([59], 3, [59], 0), ([33], 3, [33], 0), ([38], 3, [38], 0), ([124], 3, [124], 0), ([120, 95, 121], 1, [120, 95, 121], 0), ([116, 114, 117, 101], 1, [116, 114, 117, 101], 0)]
def pick (n : Nat) : List UInt8 × Nat × List UInt8 × Nat := table.getD (n % 26) ([97], 1, [97], 0)
end Go.Proofs.YtdbgaccnejffpaaGreatDoor.Lex
/- Tokens in plain lists of bytes: a number as it is written; one word, blanks alone. By an AI agent. -/
namespace Go.Proofs.YtdbgaccnejffpaaGreatDoor.Lex
end Go.Proofs.YtdbgaccnejffpaaGreatDoor.Lex
/- Tokens in plain lists of bytes: what each branch of a walk says of the piece that begins. By an AI agent. -/
namespace Go.Proofs.YtdbgaccnejffpaaGreatDoor.Lex
end Go.Proofs.YtdbgaccnejffpaaGreatDoor.Lex
/- Rows of tokens in memory: append of one; what a walk reads. By an AI agent. -/
namespace Go.Proofs.YtdbgaccnejffpaaGreatDoor.Lex
open Go.RowKit
def bytes (l : List UInt8) : ByteArray := ⟨l.toArray⟩
section
variable {P : Program} {w : World}
end
end Go.Proofs.YtdbgaccnejffpaaGreatDoor.Lex
/- Texts, byte by byte: what the walks share. By an AI agent. -/
namespace Go.Proofs.YtdbgaccnejffpaaGreatDoor.Lex
open Go.RowKit
theorem drop_get (s : ByteArray) (q : Nat) (h : q < s.size) : s.data.toList.drop q = s[q] :: s.data.toList.drop (q + 1) := by
 have hl : q < s.data.toList.length := by rw [Array.length_toList]; exact h
 rw [List.drop_eq_getElem_cons hl]
 rfl
theorem drop_end (s : ByteArray) (q : Nat) (h : s.size ≤ q) : s.data.toList.drop q = [] := List.drop_eq_nil_of_le (by rw [Array.length_toList]; exact h)
end Go.Proofs.YtdbgaccnejffpaaGreatDoor.Lex
/- The walks of the reference's small, digit and run. By an AI agent. -/
namespace Go.Proofs.YtdbgaccnejffpaaGreatDoor.Lex
open Go.RowKit
end Go.Proofs.YtdbgaccnejffpaaGreatDoor.Lex
/- The walks of the reference's Reserved and Name. By an AI agent. -/
namespace Go.Proofs.YtdbgaccnejffpaaGreatDoor.Lex
open Go.RowKit
end Go.Proofs.YtdbgaccnejffpaaGreatDoor.Lex

/- Kinds of nodes in plain arithmetic, and the reference's small functions on them. By an AI agent. -/
namespace Go.Proofs.YtdbgaccnejffpaaGreatDoor.Tree
open Go.RowKit
def none0 : List Int := [1, 2, 3, 18]
def twos : List Int := [5, 6, 7, 14, 15, 20, 21]
def arity (k : Int) : Int := if k ∈ none0 then 0 else if k ∈ twos then 2 else if k < 1 ∨ 22 < k then -1 else 1
def formKind (k : Int) : Bool := decide (1 ≤ k ∧ k ≤ 17)
def timed (k : Int) : Bool := decide (8 ≤ k ∧ k ≤ 17)
def regs : List Int := [16, 17, 20, 21, 22]
def fits (k c : Int) : Bool := if k ∈ regs then !(formKind c) else formKind c
end Go.Proofs.YtdbgaccnejffpaaGreatDoor.Tree
/- Lists of nodes that may be, as a run over the nodes with the open ones. By an AI agent. -/
namespace Go.Proofs.YtdbgaccnejffpaaGreatDoor.Tree
open Go.RowKit
def okShape (n : Nd) (have_ : Nat) : Bool :=
 decide (0 ≤ arity n.kind) && (decide ((n.kids.length : Int) = arity n.kind) && (decide (arity n.kind ≤ have_) && ((decide (n.kind ≠ 3) || Lex.nameS n.name.data.toList) && (decide (n.kind = 3) || decide (n.name.data.toList = [])))))
def okSpan (n : Nd) : Bool := if timed n.kind then Ival.mayS n.lo n.hi else decide (n.lo = 0 ∧ n.hi = 0)
def okKid (l : List Nd) (n : Nd) (k : Int) (t : Nat) : Bool := decide (k = (t : Int)) && fits n.kind ((l[t]?.map (·.kind)).getD 0)
def okKids (l : List Nd) (n : Nd) : List Int → List Nat → Bool
 | k :: ks, t :: ts => okKid l n k t && okKids l n ks ts
 | [], [] => true
 | _, _ => false
def mayStep (l : List Nd) (st : List Nat) (i : Nat) : Option (List Nat) :=
 match l[i]? with
 | none => none
 | some n => if okShape n st.length = true ∧ okSpan n = true ∧ okKids l n n.kids (st.drop (st.length - n.kids.length)) = true then some (st.take (st.length - n.kids.length) ++ [i]) else none
def mayUpTo (l : List Nd) : Nat → Option (List Nat)
 | 0 => some []
 | i + 1 => (mayUpTo l i).bind fun st => mayStep l st i
def mayL (l : List Nd) : Bool :=
 match mayUpTo l l.length with
 | some st => decide (st.length = 1)
 | none => false
theorem upTo_none (l : List Nd) (i : Nat) (h : mayUpTo l i = none) : ∀ j, i ≤ j → mayUpTo l j = none := by
 intro j hj
 induction j with
 | zero =>
  have : i = 0 := by omega
  subst this; exact h
 | succ j ih =>
  by_cases he : i = j + 1
  ·subst he; exact h
  ·rw [mayUpTo, ih (by omega)]
   rfl
theorem may_stop {l : List Nd} {i : Nat} {st : List Nat} (h : mayUpTo l i = some st) (hi : i < l.length) (hs : mayStep l st i = none) : mayL l = false := by
 have h1 : mayUpTo l (i + 1) = none := by rw [mayUpTo, h]; exact hs
 have h2 := upTo_none l (i + 1) h1 l.length (by omega)
 unfold mayL
 rw [h2]
theorem may_end {l : List Nd} {st : List Nat} (h : mayUpTo l l.length = some st) : mayL l = decide (st.length = 1) := by
 unfold mayL
 rw [h]
theorem may_go {l : List Nd} {i : Nat} {st st' : List Nat} (h : mayUpTo l i = some st) (hs : mayStep l st i = some st') : mayUpTo l (i + 1) = some st' := by
 rw [mayUpTo, h]; exact hs
theorem upTo_lt (l : List Nd) : ∀ (i : Nat) (st : List Nat), mayUpTo l i = some st → (∀ x ∈ st, x < i) ∧ st.length ≤ i := by
 intro i
 induction i with
 | zero => intro st h; cases h; simp
 | succ i ih =>
  intro st h
  rw [mayUpTo] at h
  obtain ⟨s0, h1, h2⟩ := Option.bind_eq_some_iff.1 h
  obtain ⟨a, b⟩ := ih s0 h1
  unfold mayStep at h2
  split at h2
  ·cases h2
  ·split at h2
   ·cases h2
    refine ⟨fun x hx => ?_, ?_⟩
    ·rcases List.mem_append.1 hx with hx | hx
     ·have := a x (List.mem_of_mem_take hx); omega
     ·rw [List.mem_singleton.1 hx]; omega
    ·simp only [List.length_append, List.length_take, List.length_singleton]
     omega
   ·cases h2
theorem okKids_at {l : List Nd} {n : Nd} : ∀ (ks : List Int) (ts : List Nat), ks.length = ts.length → (okKids l n ks ts = true ↔ ∀ (j : Nat) (k : Int) (t : Nat), ks[j]? = some k → ts[j]? = some t → okKid l n k t = true)
 | [], [], _ => by simp [okKids]
 | k :: ks, t :: ts, h => by
  have ih := okKids_at (l := l) (n := n) ks ts (by simpa using h)
  simp only [okKids, Bool.and_eq_true, ih]
  constructor
  ·rintro ⟨h1, h2⟩ j x y hx hy
   cases j with
   | zero => simp only [List.getElem?_cons_zero, Option.some.injEq] at hx hy; subst hx; subst hy; exact h1
   | succ j => exact h2 j x y (by simpa using hx) (by simpa using hy)
  ·intro h1
   exact ⟨h1 0 k t rfl rfl, fun j x y hx hy => h1 (j + 1) x y (by simpa using hx) (by simpa using hy)⟩
 | [], _ :: _, h => by simp at h
 | _ :: _, [], h => by simp at h
end Go.Proofs.YtdbgaccnejffpaaGreatDoor.Tree
/- What is told of lists of nodes, as plain functions. By an AI agent. -/
namespace Go.Proofs.YtdbgaccnejffpaaGreatDoor.Tree
open Go.RowKit
theorem may_all {l : List Nd} (h : mayL l = true) : ∃ st, mayUpTo l l.length = some st ∧ st.length = 1 := by
 unfold mayL at h
 cases hs : mayUpTo l l.length with
 | none => rw [hs] at h; cases h
 | some st => rw [hs] at h; exact ⟨st, rfl, of_decide_eq_true h⟩
theorem upTo_some {l : List Nd} {i : Nat} (h : (mayUpTo l l.length).isSome = true) (hi : i ≤ l.length) : ∃ st, mayUpTo l i = some st := by
 cases hs : mayUpTo l i with
 | some st => exact ⟨st, rfl⟩
 | none =>
  rw [upTo_none l i hs l.length hi] at h
  cases h
theorem may_ne {l : List Nd} (h : mayL l = true) : 0 < l.length := by
 obtain ⟨st, h1, h2⟩ := may_all h
 have := (upTo_lt l l.length st h1).2
 omega
theorem may_node {l : List Nd} (h : mayL l = true) {i : Nat} {n : Nd} (hi : l[i]? = some n) :
  ∃ st, mayUpTo l i = some st ∧ okShape n st.length = true ∧ okSpan n = true ∧ okKids l n n.kids (st.drop (st.length - n.kids.length)) = true := by
 obtain ⟨s, h1, -⟩ := may_all h
 have hlt : i < l.length := (List.getElem?_eq_some_iff.1 hi).1
 obtain ⟨st, hst⟩ := upTo_some (l := l) (i := i) (by rw [h1]; rfl) (Nat.le_of_lt hlt)
 obtain ⟨st', hst'⟩ := upTo_some (l := l) (i := i + 1) (by rw [h1]; rfl) hlt
 rw [mayUpTo, hst] at hst'
 have hs : mayStep l st i = some st' := hst'
 unfold mayStep at hs
 rw [hi] at hs
 simp only at hs
 split at hs
 ·rename_i hc; exact ⟨st, hst, hc⟩
 ·cases hs
theorem shape_parts {n : Nd} {k : Nat} (h : okShape n k = true) : 0 ≤ arity n.kind ∧ (n.kids.length : Int) = arity n.kind ∧ n.kids.length ≤ k ∧ (n.kind = 3 → Lex.nameS n.name.data.toList = true) ∧ (n.kind ≠ 3 → n.name.data.toList = []) := by
 unfold okShape at h
 simp only [Bool.and_eq_true, Bool.or_eq_true, decide_eq_true_eq] at h
 obtain ⟨h1, h2, h3, h4, h5⟩ := h
 refine ⟨h1, h2, by omega, fun h3 => h4.resolve_left (fun x => x h3), fun h3 => h5.resolve_left h3⟩
theorem may_kids {l : List Nd} (h : mayL l = true) {i : Nat} {n : Nd} (hi : l[i]? = some n) : ∀ k ∈ n.kids, 0 ≤ k ∧ k < (i : Int) := by
 obtain ⟨st, h1, h2, h3, h4⟩ := may_node h hi
 have hlt := (upTo_lt l i st h1).1
 have hk := (shape_parts h2).2.2.1
 intro k hm
 obtain ⟨j, hj, rfl⟩ := List.getElem_of_mem hm
 have hl : n.kids.length = (st.drop (st.length - n.kids.length)).length := by rw [List.length_drop]; omega
 have hj2 : j < (st.drop (st.length - n.kids.length)).length := by omega
 have := (okKids_at _ _ hl).1 h4 j _ _ (List.getElem?_eq_getElem hj) (List.getElem?_eq_getElem hj2)
 unfold okKid at this
 simp only [Bool.and_eq_true, decide_eq_true_eq] at this
 have h5 := hlt _ (List.mem_of_mem_drop (List.getElem_mem hj2))
 rw [this.1]
 omega
theorem may_arity {l : List Nd} (h : mayL l = true) {i : Nat} {n : Nd} (hi : l[i]? = some n) : n.kids.length ≤ 2 := by
 obtain ⟨st, h1, h2, -, -⟩ := may_node h hi
 obtain ⟨-, h3, -⟩ := shape_parts h2
 unfold arity at h3
 split at h3
 ·omega
 ·split at h3
  ·omega
  ·split at h3 <;> omega
theorem kid_nat {l : List Nd} (h : mayL l = true) {i : Nat} {n : Nd} (hi : l[i]? = some n) {j : Nat} (hj : j < n.kids.length) : ∃ t : Nat, n.kids[j]?.getD 0 = (t : Int) ∧ t < i ∧ n.kids.take (j + 1) = n.kids.take j ++ [(t : Int)] := by
 have := may_kids h hi n.kids[j] (List.getElem_mem hj)
 obtain ⟨t, ht⟩ := Int.eq_ofNat_of_zero_le this.1
 refine ⟨t, by rw [List.getElem?_eq_getElem hj]; exact ht, by omega, ?_⟩
 rw [List.take_succ_eq_append_getElem hj, ht]
def lastKind (l : List Nd) : Int := (l.getLast?.map (·.kind)).getD 0
def formL (l : List Nd) : Bool := mayL l && formKind (lastKind l)
def regL (l : List Nd) : Bool := mayL l && !formKind (lastKind l)
def sweet (k : Int) : Bool := decide (k = 7) || decide (8 ≤ k ∧ k ≤ 15)
def startF (l : List Nd) : Nat → Nat → Nat
 | 0, i => i
 | f + 1, i => match l[i]? with
  | none => i
  | some n => match n.kids with
   | [] => i
   | k :: _ => startF l f k.toNat
def startL (l : List Nd) (i : Nat) : Nat := startF l (i + 1) i
def shiftNd (d : Int) (n : Nd) : Nd := { n with kids := n.kids.map (· + d) }
def partL (l : List Nd) (i : Int) : List Nd :=
 if mayL l = true ∧ 0 ≤ i ∧ i < l.length then ((l.take (i.toNat + 1)).drop (startL l i.toNat)).map (shiftNd (-(startL l i.toNat : Int))) else []
def overL (n : Nd) (a b : List Nd) : List Nd :=
 a ++ b.map (shiftNd a.length) ++ [{ n with kids := (if a = [] then [] else [(a.length : Int) - 1]) ++ (if b = [] then [] else [(a.length : Int) + b.length - 1]) }]
end Go.Proofs.YtdbgaccnejffpaaGreatDoor.Tree

namespace Go.Proofs.YtdbgaccnejffpaaGreatDoor.Tree
open Go.RowKit Go.Proofs.YtdbgaccnejffpaaGreatDoor.Ints
def zints (st : List Nat) : List Int := st.map fun x : Nat => (x : Int)
theorem zints_wf (st : List Nat) (n : Nat) (hn : n ≤ 1048576) (h : ∀ x ∈ st, x < n) : ∀ z ∈ zints st, (Lit.int .i64 z).wf = true := by
 intro z hz
 obtain ⟨x, hx, rfl⟩ := List.mem_map.1 hz
 have := h x hx
 exact WalkArith.wf_i64 (by omega)
theorem step_some {l : List Nd} {st : List Nat} {k : Nat} {nd : Nd} (hk : l[k]? = some nd) (h1 : okShape nd st.length = true) (h2 : okSpan nd = true) (h3 : okKids l nd nd.kids (st.drop (st.length - nd.kids.length)) = true) :
  mayStep l st k = some (st.take (st.length - nd.kids.length) ++ [k]) := by
 unfold mayStep
 rw [hk]
 simp only
 rw [if_pos ⟨h1, h2, h3⟩]
theorem shape_ok {n : Nd} {k : Nat} (h1 : 0 ≤ arity n.kind) (h2 : (n.kids.length : Int) = arity n.kind) (h3 : arity n.kind ≤ k) (h4 : (n.kind = 3 ∧ Lex.nameS n.name.data.toList = true) ∨ (n.kind ≠ 3 ∧ n.name.data.toList = [])) : okShape n k = true := by
 unfold okShape
 rw [decide_eq_true h1, decide_eq_true h2, decide_eq_true h3]
 rcases h4 with ⟨h4, h5⟩ | ⟨h4, h5⟩
 ·rw [h5, decide_eq_true h4]; simp
 ·rw [decide_eq_true h4, decide_eq_true h5]; simp
theorem infoInt : (Tryz.prog.info? 3).map (fun i => (i.zero, i.size, i.bytes)) = some (some (.int .i64 0), 1, 8) := by kernel_rfl
theorem sizeElemInts : (Tryz.prog.info? (Tryz.prog.elem 35)).map (·.size) = some 1 := by kernel_rfl
theorem typeInts : Tryz.prog.underlying 35 = some (.slice (Tryz.prog.elem 35)) := by kernel_rfl
end Go.Proofs.YtdbgaccnejffpaaGreatDoor.Tree

namespace Go.Proofs.YtdbgaccnejffpaaGreatDoor.Tree
open Go.RowKit Go.Proofs.YtdbgaccnejffpaaGreatDoor.Ints
def GotNodes (S : Nat → Prop) (w : World) (m : List Nd) (e : Ending) (w' : World) : Prop :=
 ∃ A c, e = .returned (.slice A m.length c) ∧ Nodes S w' A m ∧ m.length ≤ c ∧ c ≤ maxLen ∧ Below w.heap.size w w'
theorem GotNodes.own {S : Nat → Prop} {w w' : World} {base : Nat} {v : Value} {σ : List SNd} {m : List Nd} (h : OwnNodes S w' base v σ) (hm : σ.map (·.1) = m) (hS : ∀ b, base ≤ b → b < w'.heap.size → S b) (hb : Below w.heap.size w w') : GotNodes S w m (.returned v) w' := by
 obtain ⟨A, c, rfl, h2, h3, h4⟩ := h.reads hS
 subst hm
 exact ⟨A, c, by rw [List.length_map], h2, by rw [List.length_map]; exact h3, h4, hb⟩
theorem kid_own {S : Nat → Prop} {w : World} {base : Nat} {kv : Value} {ks : List Int} {nd : Nd} (h : w.ownsRow base 3 1 kv ks.length (ks.map (Value.int .i64))) (hz : ∀ z ∈ ks, (Lit.int .i64 z).wf = true)
  (s0 : small64 nd.kind) (s2 : small64 nd.lo) (s3 : small64 nd.hi) (s1 : nd.name.size ≤ maxLen) (hS : ∀ b, base ≤ b → S b) : ∃ K c, kv = .slice K ks.length c ∧ KidOk S w ({ nd with kids := ks }, K, c) := by
 obtain ⟨K, c, rfl, h1, h2, -, h4⟩ := own_slice h
 exact ⟨K, c, rfl, ⟨s0, s2, s3, s1, Rd.own h hz, h1, h2⟩, fun a e _ => hS _ (h4 a e).1⟩
theorem KidOk.setCell {S : Nat → Prop} {w : World} {s : SNd} (h : KidOk S w s) (p : Addr) (u : Value) (hp : ∀ b, S b → p.block ≠ b) : KidOk S (w.setCell p u) s :=
 h.keep fun q _ hq hc => (World.cell?_setCell_far w p q u (hp _ hq)).trans hc
theorem wf_moved {ks : List Int} {d B : Int} (h : ∀ k ∈ ks, 0 ≤ k ∧ k < B) (hd : -B ≤ d ∧ d ≤ B) (hB : B ≤ 1048576) : ∀ z ∈ ks.map (· + d), (Lit.int .i64 z).wf = true := by
 intro z hz
 obtain ⟨k, hk, rfl⟩ := List.mem_map.1 hz
 have := h k hk
 exact WalkArith.wf_i64 (by omega)
theorem kid_cells {nd : Nd} {ks : List Int} {K : Option Addr} {c m : Nat} (h : ks.length = m) : cellsS ({ nd with kids := ks }, K, c) = [.int .i64 nd.kind, .string nd.name, .int .i64 nd.lo, .int .i64 nd.hi, .slice K m c] := by
 subst h; rfl
theorem moved_next (ks : List Int) (j t : Nat) (d : Int) (h : ks.take (j + 1) = ks.take j ++ [(t : Int)]) : ((ks.take j).map (· + d)) ++ [(t : Int) + d] = (ks.take (j + 1)).map (· + d) := by
 rw [h, List.map_append]; rfl
end Go.Proofs.YtdbgaccnejffpaaGreatDoor.Tree

namespace Go.Proofs.YtdbgaccnejffpaaGreatDoor.Tree
open Go.RowKit
end Go.Proofs.YtdbgaccnejffpaaGreatDoor.Tree
