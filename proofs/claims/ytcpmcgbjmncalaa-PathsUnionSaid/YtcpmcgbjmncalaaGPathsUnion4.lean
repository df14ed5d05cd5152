/-
  Rows of nodes of the call's own: what they read as, append of one and of many. By an AI agent.
  Two nodes are one, or not. By an AI agent.
  Intervals of time in plain arithmetic, and the walk of the reference's MaySpan. By an AI agent.
-/
import Derived.Test.YtcpmcgbjmncalaaGPathsUnion3
import Derived.Maps.AppendAt
import Derived.Laws.AppendOwnNone
import Derived.Test.YtcpmcgbjmncalaaChecked
import Derived.WalkKit
import Derived.WalkSpells
import Derived.WalkLawsBesides
import Derived.Below
import Derived.Lib.Hide
import Derived.Lib.MinMax
import Derived.IntWalk
namespace Go.Proofs.Ytcpmcgbjmncalaa.Tree
open Go.RowKit Go.Proofs.Ytcpmcgbjmncalaa.Ints

/-- A node as it is stored: with its kids' slice. -/
abbrev SNd := Nd × Option Addr × Nat
def cellsS (s : SNd) : List Value := [.int .i64 s.1.kind, .string s.1.name, .int .i64 s.1.lo, .int .i64 s.1.hi, .slice s.2.1 s.1.kids.length s.2.2]
def rowS (l : List SNd) : List Value := l.flatMap cellsS
def KidOk (S : Nat → Prop) (w : World) (s : SNd) : Prop := NodeOk w s.1 s.2.1 s.2.2 ∧ ∀ a, s.2.1 = some a → 0 < s.1.kids.length → S a.block
theorem KidOk.keep {S : Nat → Prop} {w w' : World} {s : SNd} (h : KidOk S w s) (hk : ∀ p u, S p.block → w.cell? p = some u → w'.cell? p = some u) : KidOk S w' s := by
  obtain ⟨⟨h5, h6, h7, h8, h10, h11, h12⟩, h14⟩ := h
  refine ⟨⟨h5, h6, h7, h8, ⟨h10.1, h10.2.1, fun h0 => ?_⟩, h11, h12⟩, h14⟩
  obtain ⟨b', off, e, hc⟩ := h10.2.2 h0
  exact ⟨b', off, e, fun j hj => hk ⟨b', off + j, none⟩ _ (h14 ⟨b', off, none⟩ e h0) (hc j hj)⟩
theorem KidOk.mono {S S' : Nat → Prop} {w : World} {s : SNd} (h : KidOk S w s) (hs : ∀ b, b < w.heap.size → S b → S' b) : KidOk S' w s := by
  obtain ⟨⟨h5, h6, h7, h8, h10, h11, h12⟩, h14⟩ := h
  refine ⟨⟨h5, h6, h7, h8, h10, h11, h12⟩, fun a e h0 => ?_⟩
  obtain ⟨b', off, e', hc⟩ := h10.2.2 h0
  rw [e] at e'
  injection e' with e'
  subst e'
  exact hs _ (World.block_lt_of_cell? w _ (hc 0 h0)) (h14 _ e h0)
theorem KidOk.below {S : Nat → Prop} {w w' : World} {s : SNd} (h : KidOk S w s) (hb : Below w.heap.size w w') : KidOk S w' s :=
  h.keep fun p _ _ hp => (hb.cell (World.block_lt_of_cell? w p hp)).trans hp
theorem rowS_len (l : List SNd) : (rowS l).length = l.length * 5 := by
  induction l with
  | nil => rfl
  | cons t l ih =>
    simp only [rowS, List.flatMap_cons, List.length_append, List.length_cons] at ih ⊢
    rw [ih]
    show 5 + l.length * 5 = (l.length + 1) * 5
    omega
theorem rowS_append (l m : List SNd) : rowS (l ++ m) = rowS l ++ rowS m := List.flatMap_append
theorem rowS_at : ∀ (l : List SNd) (j : Nat) (t : SNd), l[j]? = some t → ∀ f, f < 5 → (rowS l)[5 * j + f]? = (cellsS t)[f]?
  | [], j, t, h, _, _ => by simp at h
  | x :: l, 0, t, h, f, hf => by
    simp only [List.getElem?_cons_zero, Option.some.injEq] at h
    subst h
    show (cellsS x ++ rowS l)[5 * 0 + f]? = _
    rw [Nat.mul_zero, Nat.zero_add, List.getElem?_append_left (by exact hf)]
  | x :: l, j + 1, t, h, f, hf => by
    have ih := rowS_at l j t (by simpa using h) f hf
    show (cellsS x ++ rowS l)[5 * (j + 1) + f]? = _
    rw [List.getElem?_append_right (by show 5 ≤ _; omega), ← ih]
    congr 1
    show 5 * (j + 1) + f - 5 = _
    omega
theorem cellsS_one (t : SNd) : ∀ u ∈ cellsS t, u.oneCell' = true := by
  intro u hu
  simp only [cellsS, List.mem_cons, List.not_mem_nil, or_false] at hu
  rcases hu with rfl | rfl | rfl | rfl | rfl <;> rfl
theorem rowS_one (l : List SNd) : ∀ u ∈ rowS l, u.oneCell' = true := by
  intro u hu
  obtain ⟨s, -, hs⟩ := List.mem_flatMap.1 hu
  exact cellsS_one s u hs

/-- v is the call's own row of the nodes σ; their kids lie in blocks of S, and not in the row. -/
def OwnNodes (S : Nat → Prop) (w : World) (base : Nat) (v : Value) (l : List SNd) : Prop :=
  w.ownsRow base 42 5 v l.length (rowS l) ∧ ∀ s ∈ l, KidOk (fun b => S b ∧ some b ≠ v.ownBlock) w s
theorem OwnNodes.nil (S : Nat → Prop) (w : World) (base : Nat) : OwnNodes S w base (.slice none 0 0) [] := ⟨World.ownsRow_nil _ _ _ _, fun s hs => by simp at hs⟩
theorem OwnNodes.made (S : Nat → Prop) (w : World) (base : Nat) (hb : base ≤ w.heap.size) : OwnNodes S (w.alloc (.cells #[] 42)) base (.slice (some ⟨w.heap.size, 0, none⟩) 0 0) [] :=
  ⟨World.ownsRow_made w #[] 0 hb (by decide) rfl, fun s hs => by simp at hs⟩
theorem OwnNodes.keep {S : Nat → Prop} {w w' : World} {base : Nat} {v : Value} {l : List SNd} {row : Option Nat} (h : OwnNodes S w base v l) (hg : w.grownBy w' row) (hne : v.ownBlock = none ∨ v.ownBlock ≠ row) (hs : ∀ b, S b → some b ≠ row) : OwnNodes S w' base v l :=
  ⟨h.1.kept hg hne, fun s hs' => (h.2 s hs').keep fun _ _ hp hc => hg.cell hc (hs _ hp.1)⟩
theorem OwnNodes.below {S : Nat → Prop} {w w' : World} {base : Nat} {v : Value} {l : List SNd} (h : OwnNodes S w base v l) (hb : Below w.heap.size w w') : OwnNodes S w' base v l :=
  ⟨below_row h.1 hb, fun s hs => (h.2 s hs).below hb⟩
theorem OwnNodes.mono {S S' : Nat → Prop} {w : World} {base : Nat} {v : Value} {l : List SNd} (h : OwnNodes S w base v l) (hs : ∀ b, b < w.heap.size → S b → S' b) : OwnNodes S' w base v l :=
  ⟨h.1, fun s hs' => (h.2 s hs').mono fun b hb hp => ⟨hs b hb hp.1, hp.2⟩⟩
/-- What a row of one's own reads as. -/
theorem OwnNodes.reads {S : Nat → Prop} {w : World} {base : Nat} {v : Value} {l : List SNd} (h : OwnNodes S w base v l) (hS : ∀ b, base ≤ b → b < w.heap.size → S b) :
    ∃ A c, v = .slice A l.length c ∧ Nodes S w A (l.map (·.1)) ∧ l.length ≤ c ∧ c ≤ maxLen := by
  obtain ⟨h1, h2⟩ := h
  have hlt := h1.lt
  have h1' := h1
  rcases h1.2 with ⟨rfl, h0⟩ | ⟨g, cap, cur, rfl, _, _, h3, h4, _⟩
  · exact ⟨none, 0, by rw [h0], fun hp => by simp at hp; omega, by omega, by decide⟩
  · refine ⟨_, cap, rfl, fun _ => ⟨g, 0, rfl, fun j n hj => ?_⟩, h3, h4⟩
    rw [List.getElem?_map] at hj
    obtain ⟨s, hs, rfl⟩ := Option.map_eq_some_iff.1 hj
    have hjl : j < l.length := (List.getElem?_eq_some_iff.1 hs).1
    have key : ∀ f, f < 5 → w.cell? ⟨g, 0 + 5 * j + f, none⟩ = (cellsS s)[f]? := fun f hf => by
      rw [Nat.zero_add, h1'.cellAt (5 * j + f) (by omega)]
      exact rowS_at l j s hs f hf
    obtain ⟨⟨k5, k6, k7, k8, k10, k11, k12⟩, k14⟩ := h2 s (List.mem_of_getElem? hs)
    have hg := hlt g rfl
    exact ⟨key 0 (by omega), key 1 (by omega), key 2 (by omega), key 3 (by omega), k5, k6, k7, k8, s.2.1, s.2.2, key 4 (by omega), k10, k11, k12, hS _ hg.1 hg.2, fun a e h0 => (k14 a e h0).1⟩
/-- The stored nodes of a list that reads as nodes. -/
theorem Nodes.stored {S : Nat → Prop} {w : World} {A : Option Addr} {l : List Nd} (h : Nodes S w A l) :
    ∃ σ : List SNd, σ.map (·.1) = l ∧ (∀ s ∈ σ, KidOk S w s) ∧ (0 < l.length → ∃ b off, A = some ⟨b, off, none⟩ ∧ S b ∧ ∀ (j : Nat) (s : SNd), σ[j]? = some s → ∀ f, f < 5 → w.cell? ⟨b, off + 5 * j + f, none⟩ = (cellsS s)[f]?) := by
  by_cases h0 : 0 < l.length
  · obtain ⟨b, off, rfl, hn⟩ := h h0
    have one : ∀ (l' : List Nd) (i : Nat), (∀ j n, l'[j]? = some n → NodeAt S w b (off + 5 * (i + j)) n) →
        ∃ σ : List SNd, σ.map (·.1) = l' ∧ (∀ s ∈ σ, KidOk S w s) ∧ ∀ (j : Nat) (s : SNd), σ[j]? = some s → ∀ f, f < 5 → w.cell? ⟨b, off + 5 * (i + j) + f, none⟩ = (cellsS s)[f]? := by
      intro l'
      induction l' with
      | nil => intro i _; exact ⟨[], rfl, fun s hs => by simp at hs, fun j s hs => by simp at hs⟩
      | cons n l' ih =>
        intro i hi
        obtain ⟨σ, e1, e2, e3⟩ := ih (i + 1) (fun j x hj => by rw [show i + 1 + j = i + (j + 1) by omega]; exact hi (j + 1) x (by simpa using hj))
        obtain ⟨x0, x1, x2, x3, s0, s2, s3, s1, K, c, x4, hK, hKc, hcK, hb, hKs⟩ := hi 0 n rfl
        refine ⟨(n, K, c) :: σ, by rw [List.map_cons, e1], fun s hs => ?_, fun j s hj f hf => ?_⟩
        · rcases List.mem_cons.1 hs with rfl | hs
          · exact ⟨⟨s0, s2, s3, s1, hK, hKc, hcK⟩, hKs⟩
          · exact e2 s hs
        · cases j with
          | zero =>
            simp only [List.getElem?_cons_zero, Option.some.injEq] at hj
            subst hj
            match f, hf with
            | 0, _ => exact x0
            | 1, _ => exact x1
            | 2, _ => exact x2
            | 3, _ => exact x3
            | 4, _ => exact x4
          | succ j =>
            rw [show i + (j + 1) = i + 1 + j by omega]
            exact e3 j s (by simpa using hj) f hf
    obtain ⟨σ, e1, e2, e3⟩ := one l 0 (fun j n hj => by rw [Nat.zero_add]; exact hn j n hj)
    obtain ⟨n, hn0⟩ : ∃ n, l[0]? = some n := ⟨_, List.getElem?_eq_getElem h0⟩
    obtain ⟨-, -, -, -, -, -, -, -, -, -, -, -, -, -, hb, -⟩ := hn 0 n hn0
    exact ⟨σ, e1, e2, fun _ => ⟨b, off, rfl, hb, fun j s hs f hf => by have := e3 j s hs f hf; rwa [Nat.zero_add] at this⟩⟩
  · have : l = [] := List.eq_nil_of_length_eq_zero (by omega)
    subst this
    exact ⟨[], rfl, fun s hs => by simp at hs, fun h => absurd h h0⟩

theorem infoNode : (Try.prog.info? 42).map (fun i => (i.zero, i.size, i.bytes)) = some (some (.agg #[.int .i64 0, .string { data := #[] }, .int .i64 0, .int .i64 0, .slice none 0 0]), 5, 64) := by kernel_rfl

/-- What append leaves: the row with the new nodes. -/
theorem own_grown {S : Nat → Prop} {w1 w' : World} {base : Nat} {v v' : Value} {σ τ : List SNd} (h2 : ∀ s ∈ σ, KidOk (fun b => S b ∧ some b ≠ v.ownBlock) w1 s) (k2 : ∀ s ∈ τ, KidOk (fun b => S b ∧ some b ≠ v.ownBlock) w1 s)
    (hr : w'.ownsRow base 42 5 v' (σ ++ τ).length (rowS (σ ++ τ))) (hg : w1.grownBy w' v.ownBlock) (hat : v'.ownBlock = v.ownBlock ∨ v'.ownBlock = some w1.heap.size) : OwnNodes S w' base v' (σ ++ τ) := by
  refine ⟨hr, fun s hs => ?_⟩
  have h3 : KidOk (fun b => S b ∧ some b ≠ v.ownBlock) w1 s := (List.mem_append.1 hs).elim (h2 s) (k2 s)
  have h4 := (h3.mono (S' := fun b => (S b ∧ some b ≠ v.ownBlock) ∧ b < w1.heap.size) fun b hb hp => ⟨hp, hb⟩).keep (w' := w') fun _ _ hp hc => hg.cell hc hp.1.2
  exact h4.mono fun b _ hp => ⟨hp.1.1, by
    rcases hat with e | e
    · rw [e]; exact hp.1.2
    · rw [e]; intro e2; injection e2 with e2; omega⟩

section
variable {P : Program} {w : World}
/-- 'append(v, n)': v is the call's own row of nodes; n lies in a new block of five cells. -/
theorem wpList_append_nd {ops : Array Oper} {rest : List Oper} {o : Oper} {a : Act} {Q : Exit → Act → World → Prop} (hgd : o.guard = none) (s x : Operand) (t : TypeId)
    (ho : o.op = .call { callee := .builtin .append, args := #[s, x], argTypes := #[t, t] }) (base : Nat) (i : TypeInfo) (z : Value)
    (ht : P.underlying t = some (.slice 42)) (hi : P.info? 42 = some i) (hz : i.zero = some z) (hsize : i.size = 5) (hby : i.bytes = 64) (hzs : z.cells.size = 5)
    (v : Value) (l : List SNd) (hs : a.eval s = v) (S : Nat → Prop) (hown : OwnNodes S w base v l)
    (sn : SNd) (hk : KidOk (fun b => S b ∧ some b ≠ v.ownBlock) w sn) (T : TypeId) (cs : Array Value) (hcs : cs = (cellsS sn).toArray) (H : Nat) (hH : w.heap.size = H) (hx : a.eval x = .slice (some ⟨H, 0, none⟩) 1 1)
    (hl : l.length ≤ 4194304) (hbase : base ≤ w.heap.size)
    (h : ∀ v' w', OwnNodes S w' base v' (l ++ [sn]) → (w.alloc (.cells cs T)).grownBy w' v.ownBlock → (v'.ownBlock = v.ownBlock ∨ v'.ownBlock = some (w.alloc (.cells cs T)).heap.size) → wpList P ops Q rest (a.put o.dst v') w') : wpList P ops Q (o :: rest) a (w.alloc (.cells cs T)) := by
  subst hcs
  subst hH
  refine wpList_plain hgd fun K hK => ?_
  obtain ⟨v', w', hrun, h1, h2, -, h4⟩ := run_append_own_at (P := P) (w.alloc (.cells (cellsS sn).toArray T)) base t o.type 42 i z 5 64 ht hi hz hsize hby hzs (by decide) v l.length (rowS l) (hown.1.alloc _) ⟨w.heap.size, 0, none⟩ 1 1 (cellsS sn) rfl (fun j u hu => by
      rw [show (⟨w.heap.size, 0, none⟩ : Addr).add j = ⟨w.heap.size, j, none⟩ by unfold Addr.add; split <;> simp_all]
      rw [cell_of_row _ w.heap.size j _ T (0, 0) (heap_alloc_new w _)]
      simpa using hu) (cellsS_one sn) (by have : maxLen = 9223372036854775807 := rfl; omega) (by omega) (by simp; omega)
  unfold Oper.wp
  simp [execOp, ho, resolve, invoke, builtin, hs, hx, hrun, Result.andThen]
  refine hK _ _ (h v' w' (own_grown (w1 := w.alloc (.cells (cellsS sn).toArray T)) (fun s hs => (hown.2 s hs).below ((Below.refl _ _).alloc (Nat.le_refl _) _)) (fun s hs => by rw [List.mem_singleton.1 hs]; exact hk.below ((Below.refl _ _).alloc (Nat.le_refl _) _)) ?_ h2 h4) h2 h4)
  rw [rowS_append, List.length_append]
  have e : rowS [sn] = cellsS sn := by simp [rowS]
  rw [e]
  exact h1
/-- 'append(v, a...)': v is the call's own row of nodes; a reads as nodes. -/
theorem wpList_append_nds {ops : Array Oper} {rest : List Oper} {o : Oper} {a : Act} {Q : Exit → Act → World → Prop} (hgd : o.guard = none) (s x : Operand) (t : TypeId)
    (ho : o.op = .call { callee := .builtin .append, args := #[s, x], argTypes := #[t, t] }) (base : Nat) (i : TypeInfo) (z : Value)
    (ht : P.underlying t = some (.slice 42)) (hi : P.info? 42 = some i) (hz : i.zero = some z) (hsize : i.size = 5) (hby : i.bytes = 64) (hzs : z.cells.size = 5)
    (v : Value) (l : List SNd) (hs : a.eval s = v) (S : Nat → Prop) (hown : OwnNodes S w base v l)
    (A : Option Addr) (n c : Nat) (m : List Nd) (hm : m.length = n) (hx : a.eval x = .slice A n c) (hnd : Nodes (fun b => S b ∧ some b ≠ v.ownBlock) w A m)
    (hl : l.length + n ≤ 4194304) (hbase : base ≤ w.heap.size)
    (h : ∀ v' w' τ, τ.map (·.1) = m → OwnNodes S w' base v' (l ++ τ) → w.grownBy w' v.ownBlock → (v'.ownBlock = v.ownBlock ∨ v'.ownBlock = some w.heap.size) → wpList P ops Q rest (a.put o.dst v') w') : wpList P ops Q (o :: rest) a w := by
  obtain ⟨τ, e1, e2, e3⟩ := hnd.stored
  have hτ : τ.length = n := by rw [← hm, ← e1, List.length_map]
  refine wpList_plain hgd fun K hK => ?_
  cases A with
  | some ad =>
    have hnews : ∀ j u, (rowS τ)[j]? = some u → w.cell? (ad.add j) = some u := fun j u hu => by
      have hj : j < (rowS τ).length := (List.getElem?_eq_some_iff.1 hu).1
      rw [rowS_len] at hj
      obtain ⟨b, off, e, -, hc⟩ := e3 (by omega)
      injection e with e
      subst e
      have hq : j / 5 < τ.length := by omega
      have h1 := hc (j / 5) _ (List.getElem?_eq_getElem hq) (j % 5) (Nat.mod_lt _ (by decide))
      have h2 : (⟨b, off, none⟩ : Addr).add j = ⟨b, off + 5 * (j / 5) + j % 5, none⟩ := by
        have : off + j = off + 5 * (j / 5) + j % 5 := by omega
        rw [← this]
        unfold Addr.add; split <;> simp_all
      rw [h2, h1, ← rowS_at τ (j / 5) _ (List.getElem?_eq_getElem hq) (j % 5) (Nat.mod_lt _ (by decide)), ← hu]
      congr 1
      omega
    obtain ⟨v', w', hrun, h1, h2, -, h4⟩ := run_append_own_at (P := P) w base t o.type 42 i z 5 64 ht hi hz hsize hby hzs (by decide) v l.length (rowS l) hown.1 ad n c (rowS τ) (by rw [rowS_len, hτ]) hnews (rowS_one τ) (by have : maxLen = 9223372036854775807 := rfl; omega) (by omega) hbase
    unfold Oper.wp
    simp [execOp, ho, resolve, invoke, builtin, hs, hx, hrun, Result.andThen]
    refine hK _ _ (h v' w' τ e1 (own_grown (w1 := w) hown.2 e2 ?_ h2 h4) h2 h4)
    rw [rowS_append, List.length_append, hτ]
    exact h1
  | none =>
    have hn0 : n = 0 := by
      rcases Nat.eq_zero_or_pos n with h' | h'
      · exact h'
      · obtain ⟨_, _, e, _⟩ := e3 (by omega)
        cases e
    subst hn0
    have hτ0 : τ = [] := List.eq_nil_of_length_eq_zero hτ
    subst hτ0
    have hrun : (Builtin.append_ #[t, t] o.type #[v, .slice none 0 c]).run P w = .ok v w := by
      rcases hown.1.2 with ⟨rfl, -⟩ | ⟨g, cap, cur, rfl, _, _, hnc, _⟩
      · simp [Builtin.append_, run_underlying ht, sizeOf, typeInfo, hi, Builtin.lenOf, Builtin.firstCells]
      · simp [Builtin.append_, run_underlying ht, sizeOf, typeInfo, hi, Builtin.lenOf, Builtin.firstCells, hnc, storeCells]
    unfold Oper.wp
    simp [execOp, ho, resolve, invoke, builtin, hs, hx, hrun, Result.andThen]
    exact hK _ _ (h v w [] e1 (by rw [List.append_nil]; exact hown) (World.grownBy.refl w _) (Or.inl rfl))
end
end Go.Proofs.Ytcpmcgbjmncalaa.Tree

namespace Go.Proofs.Ytcpmcgbjmncalaa.Tree
deriving instance DecidableEq for Nd
theorem le_alloc {a : Nat} {w : World} {o : Obj} (h : a ≤ w.heap.size) : a ≤ (w.alloc o).heap.size := by simp; omega
end Go.Proofs.Ytcpmcgbjmncalaa.Tree

namespace Go.Proofs.Ytcpmcgbjmncalaa.Ival
open Go.RowKit

/-- May the span be? -/
def mayS (lo hi : Int) : Bool := decide (0 ≤ lo ∧ lo ≤ 9999 ∧ (hi = -1 ∨ (lo ≤ hi ∧ hi ≤ 9999)))
abbrev span (lo hi : Int) : Value := .agg #[.int .i64 lo, .int .i64 hi]

theorem box0 {w w' : World} {x y : Value} {T : TypeId} (hb : Below (w.alloc (.cells #[x, y] T)).heap.size (w.alloc (.cells #[x, y] T)) w') : w'.cell? ⟨w.heap.size, 0, none⟩ = some x := by
  have h : (w.alloc (.cells #[x, y] T)).cell? ⟨w.heap.size, 0, none⟩ = some x := by rw [cell_of_row _ w.heap.size 0 _ T (0, 0) (heap_alloc_new w _)]; rfl
  exact (hb.cell (World.block_lt_of_cell? _ _ h)).trans h
theorem box1 {w w' : World} {x y : Value} {T : TypeId} (hb : Below (w.alloc (.cells #[x, y] T)).heap.size (w.alloc (.cells #[x, y] T)) w') : w'.cell? ⟨w.heap.size, 1, none⟩ = some y := by
  have h : (w.alloc (.cells #[x, y] T)).cell? ⟨w.heap.size, 1, none⟩ = some y := by rw [cell_of_row _ w.heap.size 1 _ T (0, 0) (heap_alloc_new w _)]; rfl
  exact (hb.cell (World.block_lt_of_cell? _ _ h)).trans h
theorem may_cases (lo hi : Int) : lo < 0 ∧ mayS lo hi = false ∨ (0 ≤ lo ∧ 9999 < lo ∧ mayS lo hi = false) ∨ (0 ≤ lo ∧ lo ≤ 9999 ∧ hi = -1 ∧ mayS lo hi = true) ∨
    (0 ≤ lo ∧ lo ≤ 9999 ∧ (hi == -1) = false ∧ hi < lo ∧ mayS lo hi = false) ∨ (0 ≤ lo ∧ lo ≤ 9999 ∧ (hi == -1) = false ∧ lo ≤ hi ∧ decide (hi ≤ 9999) = false ∧ mayS lo hi = false) ∨
    (0 ≤ lo ∧ lo ≤ 9999 ∧ (hi == -1) = false ∧ lo ≤ hi ∧ hi ≤ 9999 ∧ mayS lo hi = true) := by
  unfold mayS
  simp only [beq_eq_false_iff_ne, ne_eq, decide_eq_false_iff_not, decide_eq_true_iff]
  omega

end Go.Proofs.Ytcpmcgbjmncalaa.Ival
