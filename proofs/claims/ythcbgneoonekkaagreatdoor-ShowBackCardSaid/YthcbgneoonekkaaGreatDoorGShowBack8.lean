/-
  Rows of nodes of the call's own: what they read as, append of one and of many. By an AI agent.
  The walks of the reference's rank, bare and word. By an AI agent.
  A block of memory, cell by cell; rows cut short. By an AI agent.
-/
import Derived.Test.YthcbgneoonekkaaGreatDoorGShowBack2
import Derived.Maps.AppendAt
import Derived.Laws.AppendOwnNone
import Derived.Test.YthcbgneoonekkaaGreatDoorGShowBack7
namespace Go.Proofs.YthcbgneoonekkaaGreatDoor.Tree
open Go.RowKit Go.Proofs.YthcbgneoonekkaaGreatDoor.Ints

/-- A node as it is stored: with its kids' slice. -/
abbrev SNd := Nd × Option Addr × Nat
def cellsS (s : SNd) : List Value := [.int .i64 s.1.kind, .string s.1.name, .int .i64 s.1.lo, .int .i64 s.1.hi, .slice s.2.1 s.1.kids.length s.2.2]
def rowS (l : List SNd) : List Value := l.flatMap cellsS
def KidOk (S : Nat → Prop) (w : World) (s : SNd) : Prop := NodeOk w s.1 s.2.1 s.2.2 ∧ ∀ a, s.2.1 = some a → 0 < s.1.kids.length → S a.block
theorem KidOk.keep {S : Nat → Prop} {w w' : World} {s : SNd} (h : KidOk S w s) (hk : ∀ p u, S p.block → w.cell? p = some u → w'.cell? p = some u) : KidOk S w' s := by
  obtain ⟨⟨h5, h6, h7, h8, h10, h11, h12⟩, h14⟩ := h
  refine ⟨⟨h5, h6, h7, h8, ⟨h10.1, h10.2.1, fun h0 => ?_⟩, h11, h12⟩, h14⟩
  obtain ⟨b', off, e, hc⟩ := h10.2.2 h0
  exact ⟨b', off, e, fun j hj => hk ⟨b', off + j, none⟩ _ (h14 ⟨b', off, none⟩ e h0) (hc j hj)⟩
theorem KidOk.mono {S S' : Nat → Prop} {w : World} {s : SNd} (h : KidOk S w s) (hs : ∀ b, b < w.heap.size → S b → S' b) : KidOk S' w s := by
  obtain ⟨⟨h5, h6, h7, h8, h10, h11, h12⟩, h14⟩ := h
  refine ⟨⟨h5, h6, h7, h8, h10, h11, h12⟩, fun a e h0 => ?_⟩
  obtain ⟨b', off, e', hc⟩ := h10.2.2 h0
  rw [e] at e'
  injection e' with e'
  subst e'
  exact hs _ (World.block_lt_of_cell? w _ (hc 0 h0)) (h14 _ e h0)
theorem KidOk.below {S : Nat → Prop} {w w' : World} {s : SNd} (h : KidOk S w s) (hb : Below w.heap.size w w') : KidOk S w' s :=
  h.keep fun p _ _ hp => (hb.cell (World.block_lt_of_cell? w p hp)).trans hp
theorem rowS_len (l : List SNd) : (rowS l).length = l.length * 5 := by
  induction l with
  | nil => rfl
  | cons t l ih =>
    simp only [rowS, List.flatMap_cons, List.length_append, List.length_cons] at ih ⊢
    rw [ih]
    show 5 + l.length * 5 = (l.length + 1) * 5
    omega
theorem rowS_append (l m : List SNd) : rowS (l ++ m) = rowS l ++ rowS m := List.flatMap_append
theorem rowS_at : ∀ (l : List SNd) (j : Nat) (t : SNd), l[j]? = some t → ∀ f, f < 5 → (rowS l)[5 * j + f]? = (cellsS t)[f]?
  | [], j, t, h, _, _ => by simp at h
  | x :: l, 0, t, h, f, hf => by
    simp only [List.getElem?_cons_zero, Option.some.injEq] at h
    subst h
    show (cellsS x ++ rowS l)[5 * 0 + f]? = _
    rw [Nat.mul_zero, Nat.zero_add, List.getElem?_append_left (by exact hf)]
  | x :: l, j + 1, t, h, f, hf => by
    have ih := rowS_at l j t (by simpa using h) f hf
    show (cellsS x ++ rowS l)[5 * (j + 1) + f]? = _
    rw [List.getElem?_append_right (by show 5 ≤ _; omega), ← ih]
    congr 1
    show 5 * (j + 1) + f - 5 = _
    omega
theorem cellsS_one (t : SNd) : ∀ u ∈ cellsS t, u.oneCell' = true := by
  intro u hu
  simp only [cellsS, List.mem_cons, List.not_mem_nil, or_false] at hu
  rcases hu with rfl | rfl | rfl | rfl | rfl <;> rfl
theorem rowS_one (l : List SNd) : ∀ u ∈ rowS l, u.oneCell' = true := by
  intro u hu
  obtain ⟨s, -, hs⟩ := List.mem_flatMap.1 hu
  exact cellsS_one s u hs

/-- v is the call's own row of the nodes σ; their kids lie in blocks of S, and not in the row. -/
def OwnNodes (S : Nat → Prop) (w : World) (base : Nat) (v : Value) (l : List SNd) : Prop :=
  w.ownsRow base 42 5 v l.length (rowS l) ∧ ∀ s ∈ l, KidOk (fun b => S b ∧ some b ≠ v.ownBlock) w s
theorem OwnNodes.nil (S : Nat → Prop) (w : World) (base : Nat) : OwnNodes S w base (.slice none 0 0) [] := ⟨World.ownsRow_nil _ _ _ _, fun s hs => by simp at hs⟩
theorem OwnNodes.made (S : Nat → Prop) (w : World) (base : Nat) (hb : base ≤ w.heap.size) : OwnNodes S (w.alloc (.cells #[] 42)) base (.slice (some ⟨w.heap.size, 0, none⟩) 0 0) [] :=
  ⟨World.ownsRow_made w #[] 0 hb (by decide) rfl, fun s hs => by simp at hs⟩
theorem OwnNodes.keep {S : Nat → Prop} {w w' : World} {base : Nat} {v : Value} {l : List SNd} {row : Option Nat} (h : OwnNodes S w base v l) (hg : w.grownBy w' row) (hne : v.ownBlock = none ∨ v.ownBlock ≠ row) (hs : ∀ b, S b → some b ≠ row) : OwnNodes S w' base v l :=
  ⟨h.1.kept hg hne, fun s hs' => (h.2 s hs').keep fun _ _ hp hc => hg.cell hc (hs _ hp.1)⟩
theorem OwnNodes.below {S : Nat → Prop} {w w' : World} {base : Nat} {v : Value} {l : List SNd} (h : OwnNodes S w base v l) (hb : Below w.heap.size w w') : OwnNodes S w' base v l :=
  ⟨below_row h.1 hb, fun s hs => (h.2 s hs).below hb⟩
theorem OwnNodes.mono {S S' : Nat → Prop} {w : World} {base : Nat} {v : Value} {l : List SNd} (h : OwnNodes S w base v l) (hs : ∀ b, b < w.heap.size → S b → S' b) : OwnNodes S' w base v l :=
  ⟨h.1, fun s hs' => (h.2 s hs').mono fun b hb hp => ⟨hs b hb hp.1, hp.2⟩⟩
/-- What a row of one's own reads as. -/
theorem OwnNodes.reads {S : Nat → Prop} {w : World} {base : Nat} {v : Value} {l : List SNd} (h : OwnNodes S w base v l) (hS : ∀ b, base ≤ b → b < w.heap.size → S b) :
    ∃ A c, v = .slice A l.length c ∧ Nodes S w A (l.map (·.1)) ∧ l.length ≤ c ∧ c ≤ maxLen := by
  obtain ⟨h1, h2⟩ := h
  have hlt := h1.lt
  have h1' := h1
  rcases h1.2 with ⟨rfl, h0⟩ | ⟨g, cap, cur, rfl, _, _, h3, h4, _⟩
  · exact ⟨none, 0, by rw [h0], fun hp => by simp at hp; omega, by omega, by decide⟩
  · refine ⟨_, cap, rfl, fun _ => ⟨g, 0, rfl, fun j n hj => ?_⟩, h3, h4⟩
    rw [List.getElem?_map] at hj
    obtain ⟨s, hs, rfl⟩ := Option.map_eq_some_iff.1 hj
    have hjl : j < l.length := (List.getElem?_eq_some_iff.1 hs).1
    have key : ∀ f, f < 5 → w.cell? ⟨g, 0 + 5 * j + f, none⟩ = (cellsS s)[f]? := fun f hf => by
      rw [Nat.zero_add, h1'.cellAt (5 * j + f) (by omega)]
      exact rowS_at l j s hs f hf
    obtain ⟨⟨k5, k6, k7, k8, k10, k11, k12⟩, k14⟩ := h2 s (List.mem_of_getElem? hs)
    have hg := hlt g rfl
    exact ⟨key 0 (by omega), key 1 (by omega), key 2 (by omega), key 3 (by omega), k5, k6, k7, k8, s.2.1, s.2.2, key 4 (by omega), k10, k11, k12, hS _ hg.1 hg.2, fun a e h0 => (k14 a e h0).1⟩
/-- The stored nodes of a list that reads as nodes. -/
theorem Nodes.stored {S : Nat → Prop} {w : World} {A : Option Addr} {l : List Nd} (h : Nodes S w A l) :
    ∃ σ : List SNd, σ.map (·.1) = l ∧ (∀ s ∈ σ, KidOk S w s) ∧ (0 < l.length → ∃ b off, A = some ⟨b, off, none⟩ ∧ S b ∧ ∀ (j : Nat) (s : SNd), σ[j]? = some s → ∀ f, f < 5 → w.cell? ⟨b, off + 5 * j + f, none⟩ = (cellsS s)[f]?) := by
  by_cases h0 : 0 < l.length
  · obtain ⟨b, off, rfl, hn⟩ := h h0
    have one : ∀ (l' : List Nd) (i : Nat), (∀ j n, l'[j]? = some n → NodeAt S w b (off + 5 * (i + j)) n) →
        ∃ σ : List SNd, σ.map (·.1) = l' ∧ (∀ s ∈ σ, KidOk S w s) ∧ ∀ (j : Nat) (s : SNd), σ[j]? = some s → ∀ f, f < 5 → w.cell? ⟨b, off + 5 * (i + j) + f, none⟩ = (cellsS s)[f]? := by
      intro l'
      induction l' with
      | nil => intro i _; exact ⟨[], rfl, fun s hs => by simp at hs, fun j s hs => by simp at hs⟩
      | cons n l' ih =>
        intro i hi
        obtain ⟨σ, e1, e2, e3⟩ := ih (i + 1) (fun j x hj => by rw [show i + 1 + j = i + (j + 1) by omega]; exact hi (j + 1) x (by simpa using hj))
        obtain ⟨x0, x1, x2, x3, s0, s2, s3, s1, K, c, x4, hK, hKc, hcK, hb, hKs⟩ := hi 0 n rfl
        refine ⟨(n, K, c) :: σ, by rw [List.map_cons, e1], fun s hs => ?_, fun j s hj f hf => ?_⟩
        · rcases List.mem_cons.1 hs with rfl | hs
          · exact ⟨⟨s0, s2, s3, s1, hK, hKc, hcK⟩, hKs⟩
          · exact e2 s hs
        · cases j with
          | zero =>
            simp only [List.getElem?_cons_zero, Option.some.injEq] at hj
            subst hj
            match f, hf with
            | 0, _ => exact x0
            | 1, _ => exact x1
            | 2, _ => exact x2
            | 3, _ => exact x3
            | 4, _ => exact x4
          | succ j =>
            rw [show i + (j + 1) = i + 1 + j by omega]
            exact e3 j s (by simpa using hj) f hf
    obtain ⟨σ, e1, e2, e3⟩ := one l 0 (fun j n hj => by rw [Nat.zero_add]; exact hn j n hj)
    obtain ⟨n, hn0⟩ : ∃ n, l[0]? = some n := ⟨_, List.getElem?_eq_getElem h0⟩
    obtain ⟨-, -, -, -, -, -, -, -, -, -, -, -, -, -, hb, -⟩ := hn 0 n hn0
    exact ⟨σ, e1, e2, fun _ => ⟨b, off, rfl, hb, fun j s hs f hf => by have := e3 j s hs f hf; rwa [Nat.zero_add] at this⟩⟩
  · have : l = [] := List.eq_nil_of_length_eq_zero (by omega)
    subst this
    exact ⟨[], rfl, fun s hs => by simp at hs, fun h => absurd h h0⟩

theorem infoNode : (Tryz.prog.info? 42).map (fun i => (i.zero, i.size, i.bytes)) = some (some (.agg #[.int .i64 0, .string { data := #[] }, .int .i64 0, .int .i64 0, .slice none 0 0]), 5, 64) := by kernel_rfl

/-- What append leaves: the row with the new nodes. -/
theorem own_grown {S : Nat → Prop} {w1 w' : World} {base : Nat} {v v' : Value} {σ τ : List SNd} (h2 : ∀ s ∈ σ, KidOk (fun b => S b ∧ some b ≠ v.ownBlock) w1 s) (k2 : ∀ s ∈ τ, KidOk (fun b => S b ∧ some b ≠ v.ownBlock) w1 s)
    (hr : w'.ownsRow base 42 5 v' (σ ++ τ).length (rowS (σ ++ τ))) (hg : w1.grownBy w' v.ownBlock) (hat : v'.ownBlock = v.ownBlock ∨ v'.ownBlock = some w1.heap.size) : OwnNodes S w' base v' (σ ++ τ) := by
  refine ⟨hr, fun s hs => ?_⟩
  have h3 : KidOk (fun b => S b ∧ some b ≠ v.ownBlock) w1 s := (List.mem_append.1 hs).elim (h2 s) (k2 s)
  have h4 := (h3.mono (S' := fun b => (S b ∧ some b ≠ v.ownBlock) ∧ b < w1.heap.size) fun b hb hp => ⟨hp, hb⟩).keep (w' := w') fun _ _ hp hc => hg.cell hc hp.1.2
  exact h4.mono fun b _ hp => ⟨hp.1.1, by
    rcases hat with e | e
    · rw [e]; exact hp.1.2
    · rw [e]; intro e2; injection e2 with e2; omega⟩

section
variable {P : Program} {w : World}
/-- 'append(v, n)': v is the call's own row of nodes; n lies in a new block of five cells. -/
theorem wpList_append_nd {ops : Array Oper} {rest : List Oper} {o : Oper} {a : Act} {Q : Exit → Act → World → Prop} (hgd : o.guard = none) (s x : Operand) (t : TypeId)
    (ho : o.op = .call { callee := .builtin .append, args := #[s, x], argTypes := #[t, t] }) (base : Nat) (i : TypeInfo) (z : Value)
    (ht : P.underlying t = some (.slice 42)) (hi : P.info? 42 = some i) (hz : i.zero = some z) (hsize : i.size = 5) (hby : i.bytes = 64) (hzs : z.cells.size = 5)
    (v : Value) (l : List SNd) (hs : a.eval s = v) (S : Nat → Prop) (hown : OwnNodes S w base v l)
    (sn : SNd) (hk : KidOk (fun b => S b ∧ some b ≠ v.ownBlock) w sn) (T : TypeId) (cs : Array Value) (hcs : cs = (cellsS sn).toArray) (H : Nat) (hH : w.heap.size = H) (hx : a.eval x = .slice (some ⟨H, 0, none⟩) 1 1)
    (hl : l.length ≤ 4194304) (hbase : base ≤ w.heap.size)
    (h : ∀ v' w', OwnNodes S w' base v' (l ++ [sn]) → (w.alloc (.cells cs T)).grownBy w' v.ownBlock → (v'.ownBlock = v.ownBlock ∨ v'.ownBlock = some (w.alloc (.cells cs T)).heap.size) → wpList P ops Q rest (a.put o.dst v') w') : wpList P ops Q (o :: rest) a (w.alloc (.cells cs T)) := by
  subst hcs
  subst hH
  refine wpList_plain hgd fun K hK => ?_
  obtain ⟨v', w', hrun, h1, h2, -, h4⟩ := run_append_own_at (P := P) (w.alloc (.cells (cellsS sn).toArray T)) base t o.type 42 i z 5 64 ht hi hz hsize hby hzs (by decide) v l.length (rowS l) (hown.1.alloc _) ⟨w.heap.size, 0, none⟩ 1 1 (cellsS sn) rfl (fun j u hu => by
      rw [show (⟨w.heap.size, 0, none⟩ : Addr).add j = ⟨w.heap.size, j, none⟩ by unfold Addr.add; split <;> simp_all]
      rw [cell_of_row _ w.heap.size j _ T (0, 0) (heap_alloc_new w _)]
      simpa using hu) (cellsS_one sn) (by have : maxLen = 9223372036854775807 := rfl; omega) (by omega) (by simp; omega)
  unfold Oper.wp
  simp [execOp, ho, resolve, invoke, builtin, hs, hx, hrun, Result.andThen]
  refine hK _ _ (h v' w' (own_grown (w1 := w.alloc (.cells (cellsS sn).toArray T)) (fun s hs => (hown.2 s hs).below ((Below.refl _ _).alloc (Nat.le_refl _) _)) (fun s hs => by rw [List.mem_singleton.1 hs]; exact hk.below ((Below.refl _ _).alloc (Nat.le_refl _) _)) ?_ h2 h4) h2 h4)
  rw [rowS_append, List.length_append]
  have e : rowS [sn] = cellsS sn := by simp [rowS]
  rw [e]
  exact h1
/-- 'append(v, a...)': v is the call's own row of nodes; a reads as nodes. -/
theorem wpList_append_nds {ops : Array Oper} {rest : List Oper} {o : Oper} {a : Act} {Q : Exit → Act → World → Prop} (hgd : o.guard = none) (s x : Operand) (t : TypeId)
    (ho : o.op = .call { callee := .builtin .append, args := #[s, x], argTypes := #[t, t] }) (base : Nat) (i : TypeInfo) (z : Value)
    (ht : P.underlying t = some (.slice 42)) (hi : P.info? 42 = some i) (hz : i.zero = some z) (hsize : i.size = 5) (hby : i.bytes = 64) (hzs : z.cells.size = 5)
    (v : Value) (l : List SNd) (hs : a.eval s = v) (S : Nat → Prop) (hown : OwnNodes S w base v l)
    (A : Option Addr) (n c : Nat) (m : List Nd) (hm : m.length = n) (hx : a.eval x = .slice A n c) (hnd : Nodes (fun b => S b ∧ some b ≠ v.ownBlock) w A m)
    (hl : l.length + n ≤ 4194304) (hbase : base ≤ w.heap.size)
    (h : ∀ v' w' τ, τ.map (·.1) = m → OwnNodes S w' base v' (l ++ τ) → w.grownBy w' v.ownBlock → (v'.ownBlock = v.ownBlock ∨ v'.ownBlock = some w.heap.size) → wpList P ops Q rest (a.put o.dst v') w') : wpList P ops Q (o :: rest) a w := by
  obtain ⟨τ, e1, e2, e3⟩ := hnd.stored
  have hτ : τ.length = n := by rw [← hm, ← e1, List.length_map]
  refine wpList_plain hgd fun K hK => ?_
  cases A with
  | some ad =>
    have hnews : ∀ j u, (rowS τ)[j]? = some u → w.cell? (ad.add j) = some u := fun j u hu => by
      have hj : j < (rowS τ).length := (List.getElem?_eq_some_iff.1 hu).1
      rw [rowS_len] at hj
      obtain ⟨b, off, e, -, hc⟩ := e3 (by omega)
      injection e with e
      subst e
      have hq : j / 5 < τ.length := by omega
      have h1 := hc (j / 5) _ (List.getElem?_eq_getElem hq) (j % 5) (Nat.mod_lt _ (by decide))
      have h2 : (⟨b, off, none⟩ : Addr).add j = ⟨b, off + 5 * (j / 5) + j % 5, none⟩ := by
        have : off + j = off + 5 * (j / 5) + j % 5 := by omega
        rw [← this]
        unfold Addr.add; split <;> simp_all
      rw [h2, h1, ← rowS_at τ (j / 5) _ (List.getElem?_eq_getElem hq) (j % 5) (Nat.mod_lt _ (by decide)), ← hu]
      congr 1
      omega
    obtain ⟨v', w', hrun, h1, h2, -, h4⟩ := run_append_own_at (P := P) w base t o.type 42 i z 5 64 ht hi hz hsize hby hzs (by decide) v l.length (rowS l) hown.1 ad n c (rowS τ) (by rw [rowS_len, hτ]) hnews (rowS_one τ) (by have : maxLen = 9223372036854775807 := rfl; omega) (by omega) hbase
    unfold Oper.wp
    simp [execOp, ho, resolve, invoke, builtin, hs, hx, hrun, Result.andThen]
    refine hK _ _ (h v' w' τ e1 (own_grown (w1 := w) hown.2 e2 ?_ h2 h4) h2 h4)
    rw [rowS_append, List.length_append, hτ]
    exact h1
  | none =>
    have hn0 : n = 0 := by
      rcases Nat.eq_zero_or_pos n with h' | h'
      · exact h'
      · obtain ⟨_, _, e, _⟩ := e3 (by omega)
        cases e
    subst hn0
    have hτ0 : τ = [] := List.eq_nil_of_length_eq_zero hτ
    subst hτ0
    have hrun : (Builtin.append_ #[t, t] o.type #[v, .slice none 0 c]).run P w = .ok v w := by
      rcases hown.1.2 with ⟨rfl, -⟩ | ⟨g, cap, cur, rfl, _, _, hnc, _⟩
      · simp [Builtin.append_, run_underlying ht, sizeOf, typeInfo, hi, Builtin.lenOf, Builtin.firstCells]
      · simp [Builtin.append_, run_underlying ht, sizeOf, typeInfo, hi, Builtin.lenOf, Builtin.firstCells, hnc, storeCells]
    unfold Oper.wp
    simp [execOp, ho, resolve, invoke, builtin, hs, hx, hrun, Result.andThen]
    exact hK _ _ (h v w [] e1 (by rw [List.append_nil]; exact hown) (World.grownBy.refl w _) (Or.inl rfl))
end
end Go.Proofs.YthcbgneoonekkaaGreatDoor.Tree

namespace Go.Proofs.YthcbgneoonekkaaGreatDoor.Show
open Go.RowKit Go.Proofs.YthcbgneoonekkaaGreatDoor.Tree Go.Proofs.YthcbgneoonekkaaGreatDoor.Itoa Go.Proofs.YthcbgneoonekkaaGreatDoor.Ints

theorem rank_ways (k : Int) : (k = 7 ∨ k = 20 ∨ k = 6 ∨ k = 21 ∨ k = 5 ∨ k = 22 ∨ k = 14 ∨ k = 15 ∨ k = 18 ∨ k = 19 ∨ k = 4 ∨ k = 8 ∨ k = 9 ∨ k = 10 ∨ k = 11 ∨ k = 12 ∨ k = 13) ∨
    ((k == 7) = false ∧ (k == 20) = false ∧ (k == 6) = false ∧ (k == 21) = false ∧ (k == 5) = false ∧ (k == 22) = false ∧ (k == 14) = false ∧ (k == 15) = false ∧ (k == 18) = false ∧ (k == 19) = false ∧ (k == 4) = false ∧ (k == 8) = false ∧ (k == 9) = false ∧ (k == 10) = false ∧ (k == 11) = false ∧ (k == 12) = false ∧ (k == 13) = false ∧ rank k = 6) := by
  by_cases h : k = 7 ∨ k = 20 ∨ k = 6 ∨ k = 21 ∨ k = 5 ∨ k = 22 ∨ k = 14 ∨ k = 15 ∨ k = 18 ∨ k = 19 ∨ k = 4 ∨ k = 8 ∨ k = 9 ∨ k = 10 ∨ k = 11 ∨ k = 12 ∨ k = 13
  · exact Or.inl h
  · right
    have e : ∀ c : Int, k ≠ c → (k == c) = false := fun c h => beq_eq_false_iff_ne.2 h
    refine ⟨e _ (by omega), e _ (by omega), e _ (by omega), e _ (by omega), e _ (by omega), e _ (by omega), e _ (by omega), e _ (by omega), e _ (by omega), e _ (by omega), e _ (by omega), e _ (by omega), e _ (by omega), e _ (by omega), e _ (by omega), e _ (by omega), e _ (by omega), ?_⟩
    unfold rank
    rw [if_neg (by omega), if_neg (by omega), if_neg (by omega), if_neg (by omega), if_neg (by omega)]
theorem rank_range (k : Int) : 1 ≤ rank k ∧ rank k ≤ 6 := by
  unfold rank
  repeat' split
  all_goals omega
end Go.Proofs.YthcbgneoonekkaaGreatDoor.Show

namespace Go.Proofs.YthcbgneoonekkaaGreatDoor.Parse
open Go.RowKit Go.Proofs.YthcbgneoonekkaaGreatDoor.Ints Go.Proofs.YthcbgneoonekkaaGreatDoor.Tree

/-! ### a block -/
/-- The block g begins with the cells vs. -/
def Blk (w : World) (g : Nat) (vs : List Value) : Prop := g < w.heap.size ∧ ∀ (k : Nat) (v : Value), vs[k]? = some v → w.cell? ⟨g, k, none⟩ = some v ∧ w.frozen? ⟨g, k, none⟩ = false
theorem Blk.cell {w : World} {g : Nat} {vs : List Value} (h : Blk w g vs) (k : Nat) {v : Value} (hv : vs[k]? = some v) : w.cell? ⟨g, k, none⟩ = some v := (h.2 k v hv).1
theorem Blk.fz {w : World} {g : Nat} {vs : List Value} (h : Blk w g vs) (k : Nat) {v : Value} (hv : vs[k]? = some v) : w.frozen? ⟨g, k, none⟩ = false := (h.2 k v hv).2
theorem Blk.same {w w' : World} {g : Nat} {vs : List Value} (h : Blk w g vs) (hs : w.heap.size ≤ w'.heap.size) (hb : w'.heap[g]? = w.heap[g]?) : Blk w' g vs :=
  ⟨Nat.lt_of_lt_of_le h.1 hs, fun k _ hv => ⟨(World.cell?_of_block (w := w) (a := ⟨g, k, none⟩) hb).trans (h.cell k hv), (World.frozen?_of_block (w := w) (a := ⟨g, k, none⟩) hb).trans (h.fz k hv)⟩⟩
theorem Blk.below {B : Nat} {w w' : World} {g : Nat} {vs : List Value} (h : Blk w g vs) (hb : Below B w w') (hg : g < B) : Blk w' g vs := h.same hb.size (hb.block g hg)
theorem Blk.later {w w' : World} {g : Nat} {vs : List Value} (h : Blk w g vs) (hb : Below w.heap.size w w') : Blk w' g vs := h.below hb h.1
theorem Blk.alloc {w : World} {g : Nat} {vs : List Value} (h : Blk w g vs) (o : Obj) : Blk (w.alloc o) g vs := h.later ((Below.refl _ _).alloc (Nat.le_refl _) _)
theorem Blk.grown {w w' : World} {g : Nat} {vs : List Value} {row : Option Nat} (h : Blk w g vs) (hg : w.grownBy w' row) (hne : some g ≠ row) : Blk w' g vs := h.same hg.size (hg.block g h.1 hne)
theorem Blk.set {w : World} {g : Nat} {vs : List Value} (h : Blk w g vs) (k : Nat) (u : Value) (hk : k < vs.length) : Blk (w.setCell ⟨g, k, none⟩ u) g (vs.set k u) := by
  refine ⟨by simpa using h.1, fun j v hv => ⟨?_, ?_⟩⟩
  · rw [List.getElem?_set] at hv
    by_cases e : k = j
    · subst e
      rw [if_pos rfl, if_pos hk] at hv
      cases hv
      exact World.cell?_setCell_same _ _ _ (h.cell k (List.getElem?_eq_getElem hk))
    · rw [if_neg e] at hv
      exact (World.cell?_setCell_other _ _ _ _ (fun e' => e (by injection e'))).trans (h.cell j hv)
  · rw [World.frozen?_setCell]
    rw [List.getElem?_set] at hv
    by_cases e : k = j
    · subst e
      exact h.fz k (List.getElem?_eq_getElem hk)
    · rw [if_neg e] at hv
      exact h.fz j hv
theorem Blk.other {w : World} {g : Nat} {vs : List Value} (h : Blk w g vs) (p : Addr) (u : Value) (hp : g ≠ p.block) : Blk (w.setCell p u) g vs := h.same (by simp) (Below.heap_setCell w p u g hp)
theorem Blk.drew {w : World} {g : Nat} {vs : List Value} (h : Blk w g vs) : Blk w.drew g vs := h
theorem Blk.drewN {w : World} {g : Nat} {vs : List Value} (h : Blk w g vs) (n : Nat) : Blk (w.drewN n) g vs := h
theorem Blk.new (w : World) (cs : Array Value) (T : TypeId) (vs : List Value) (hv : cs.toList = vs) : Blk (w.alloc (.cells cs T)) w.heap.size vs := by
  subst hv
  refine ⟨by simp, fun k v hk => ⟨?_, ?_⟩⟩
  · rw [cell_of_row _ w.heap.size k _ T (0, 0) (heap_alloc_new w _)]
    simpa using hk
  · exact World.frozen?_alloc_new _ _ _ _

theorem own_take {w : World} {base : Nat} {e : TypeId} {size : Nat} {A : Option Addr} {n c k : Nat} {xs ys : List Value} (h : w.ownsRow base e size (.slice A n c) n xs) (hk : k ≤ n) (hy : ys = xs.take (k * size)) : w.ownsRow base e size (.slice A k c) k ys := by
  subst hy
  obtain ⟨h1, h2⟩ := h
  have hle : k * size ≤ n * size := Nat.mul_le_mul_right _ hk
  refine ⟨by rw [List.length_take, h1]; omega, ?_⟩
  rcases h2 with ⟨h3, h4⟩ | ⟨g, cap, cur, h3, h4, h5, h6, h7, h8, h9⟩
  · have h3 : (A = none ∧ n = 0 ∧ c = 0) := by injection h3 with a b d; exact ⟨a, b, d⟩
    obtain ⟨rfl, rfl, rfl⟩ := h3
    have : k = 0 := by omega
    subst this
    exact Or.inl ⟨rfl, rfl⟩
  · injection h3 with a b d
    subst a; subst d
    refine Or.inr ⟨g, c, cur, rfl, h4, h5, by omega, h7, h8, ?_⟩
    rw [← h9, List.take_take, Nat.min_eq_left hle]
theorem own_form8 {w : World} {base : Nat} {e : TypeId} {size : Nat} {v : Value} {n : Nat} {xs : List Value} (h : w.ownsRow base e size v n xs) (hn : 0 < n) : ∃ g cap, v = .slice (some ⟨g, 0, none⟩) n cap ∧ base ≤ g ∧ g < w.heap.size ∧ n ≤ cap ∧ cap ≤ maxLen := by
  have hlt := h.lt
  rcases h.2 with ⟨_, h2⟩ | ⟨g, cap, cur, rfl, _, _, h3, h4, _⟩
  · omega
  · exact ⟨g, cap, rfl, (hlt g rfl).1, (hlt g rfl).2, h3, h4⟩
theorem own_same (A : Option Addr) (k n c : Nat) : (Value.slice A k c).ownBlock = (Value.slice A n c).ownBlock := by cases A <;> rfl

end Go.Proofs.YthcbgneoonekkaaGreatDoor.Parse
