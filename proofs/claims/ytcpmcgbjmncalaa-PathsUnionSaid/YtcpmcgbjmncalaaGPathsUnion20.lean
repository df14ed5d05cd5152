/-
  Slices of lists of nodes: what they read as; rows of one's own. By an AI agent.
-/
import Derived.Test.YtcpmcgbjmncalaaGPathsUnion4
import Derived.Test.YtcpmcgbjmncalaaGPathsUnion18
namespace Go.Proofs.Ytcpmcgbjmncalaa.Tree
open Go.RowKit Go.Proofs.Ytcpmcgbjmncalaa.Ints

/-- A list as it is stored: with its slice. -/
abbrev SL := List Nd × Option Addr × Nat
def cellL (s : SL) : Value := .slice s.2.1 s.1.length s.2.2
def ListOk (S : Nat → Prop) (w : World) (s : SL) : Prop := Nodes S w s.2.1 s.1 ∧ s.1.length ≤ s.2.2 ∧ s.2.2 ≤ maxLen
theorem ListOk.keep {S : Nat → Prop} {w w' : World} {s : SL} (h : ListOk S w s) (hk : ∀ p u, S p.block → w.cell? p = some u → w'.cell? p = some u) : ListOk S w' s := ⟨h.1.keep hk, h.2⟩
theorem ListOk.mono {S S' : Nat → Prop} {w : World} {s : SL} (h : ListOk S w s) (hs : ∀ b, b < w.heap.size → S b → S' b) : ListOk S' w s := ⟨h.1.mono hs, h.2⟩
theorem ListOk.below {S : Nat → Prop} {w w' : World} {s : SL} (h : ListOk S w s) (hb : Below w.heap.size w w') : ListOk S w' s := ⟨h.1.below hb, h.2⟩
theorem cellL_one (l : List SL) : ∀ u ∈ l.map cellL, u.oneCell' = true := by
  intro u hu
  obtain ⟨s, -, rfl⟩ := List.mem_map.1 hu
  rfl
/-- The slice of address A reads as the lists l. -/
def Lists (S : Nat → Prop) (w : World) (A : Option Addr) (l : List SL) : Prop :=
  0 < l.length → ∃ b off, A = some ⟨b, off, none⟩ ∧ S b ∧ ∀ (j : Nat) (s : SL), l[j]? = some s → w.cell? ⟨b, off + j, none⟩ = some (cellL s) ∧ ListOk S w s
theorem Lists.below {S : Nat → Prop} {w w' : World} {A : Option Addr} {l : List SL} (h : Lists S w A l) (hb : Below w.heap.size w w') : Lists S w' A l := fun h0 => by
  obtain ⟨b, off, h1, h2, h3⟩ := h h0
  exact ⟨b, off, h1, h2, fun j s hj => ⟨below_cell hb (h3 j s hj).1, (h3 j s hj).2.below hb⟩⟩

/-- v is the call's own row of the lists l; their nodes lie in blocks of S, and not in the row. -/
def OwnLists (S : Nat → Prop) (w : World) (base : Nat) (v : Value) (l : List SL) : Prop :=
  w.ownsRow base 22 1 v l.length (l.map cellL) ∧ ∀ s ∈ l, ListOk (fun b => S b ∧ some b ≠ v.ownBlock) w s
theorem OwnLists.nil (S : Nat → Prop) (w : World) (base : Nat) : OwnLists S w base (.slice none 0 0) [] := ⟨World.ownsRow_nil _ _ _ _, fun s hs => by simp at hs⟩
theorem OwnLists.keep {S : Nat → Prop} {w w' : World} {base : Nat} {v : Value} {l : List SL} {row : Option Nat} (h : OwnLists S w base v l) (hg : w.grownBy w' row) (hne : v.ownBlock = none ∨ v.ownBlock ≠ row) (hs : ∀ b, S b → some b ≠ row) : OwnLists S w' base v l :=
  ⟨h.1.kept hg hne, fun s hs' => (h.2 s hs').keep fun _ _ hp hc => hg.cell hc (hs _ hp.1)⟩
theorem OwnLists.below {S : Nat → Prop} {w w' : World} {base : Nat} {v : Value} {l : List SL} (h : OwnLists S w base v l) (hb : Below w.heap.size w w') : OwnLists S w' base v l :=
  ⟨below_row h.1 hb, fun s hs => (h.2 s hs).below hb⟩
theorem OwnLists.mono {S S' : Nat → Prop} {w : World} {base : Nat} {v : Value} {l : List SL} (h : OwnLists S w base v l) (hs : ∀ b, b < w.heap.size → S b → S' b) : OwnLists S' w base v l :=
  ⟨h.1, fun s hs' => (h.2 s hs').mono fun b hb hp => ⟨hs b hb hp.1, hp.2⟩⟩
theorem OwnLists.weaken {S : Nat → Prop} {w : World} {base base' : Nat} {v : Value} {l : List SL} (h : OwnLists S w base v l) (hb : base' ≤ base) : OwnLists S w base' v l := ⟨own_weaken h.1 hb, h.2⟩
/-- The value of a row. -/
theorem OwnLists.slice {S : Nat → Prop} {w : World} {base : Nat} {v : Value} {l : List SL} (h : OwnLists S w base v l) : ∃ A c, v = .slice A l.length c ∧ l.length ≤ c ∧ c ≤ maxLen ∧ (A = none → c = 0) ∧ (∀ a, A = some a → base ≤ a.block ∧ a.block < w.heap.size) := own_slice h.1
/-- The cells of a row. -/
theorem OwnLists.cell {S : Nat → Prop} {w : World} {base : Nat} {A : Option Addr} {c : Nat} {l : List SL} (h : OwnLists S w base (.slice A l.length c) l) (h0 : 0 < l.length) : ∃ g, A = some ⟨g, 0, none⟩ ∧ ∀ (j : Nat) (s : SL), l[j]? = some s → w.cell? ⟨g, j, none⟩ = some (cellL s) := by
  obtain ⟨g, cap, e, -⟩ := own_form h.1 h0
  injection e with e1 _ e2
  subst e1; subst e2
  refine ⟨g, rfl, fun j s hj => ?_⟩
  have hl : j < l.length := (List.getElem?_eq_some_iff.1 hj).1
  rw [h.1.cellAt j (by simpa using hl), List.getElem?_map, hj]
  rfl
theorem own_len (A : Option Addr) (k n c : Nat) : (Value.slice A k c).ownBlock = (Value.slice A n c).ownBlock := by
  cases A with
  | none => rfl
  | some a => rfl
/-- The first ones of a row, as a row. -/
theorem OwnLists.take {S : Nat → Prop} {w : World} {base : Nat} {A : Option Addr} {n c : Nat} {l : List SL} (h : OwnLists S w base (.slice A n c) l) {k : Nat} (hk : k ≤ l.length) : OwnLists S w base (.slice A k c) (l.take k) := by
  obtain ⟨h1, h2⟩ := h
  have hlen : (l.take k).length = k := by rw [List.length_take]; omega
  have hn : n = l.length := by
    rcases h1.2 with ⟨e, h0⟩ | ⟨g, cap, cur, e, -⟩
    · injection e with _ e _; omega
    · injection e with _ e _
  refine ⟨⟨by rw [List.length_map, Nat.mul_one], ?_⟩, fun s hs => by rw [own_len A k n c]; exact h2 s (List.mem_of_mem_take hs)⟩
  rw [hlen]
  rcases h1.2 with ⟨e, h0⟩ | ⟨g, cap, cur, e, h3, h4, h5, h6, h7, h8⟩
  · injection e with e1 e2 e3
    subst e1; subst e3
    exact .inl ⟨by rw [show k = 0 by omega], by omega⟩
  · injection e with e1 e2 e3
    subst e1; subst e3
    refine .inr ⟨g, c, cur, rfl, h3, h4, by omega, h6, h7, ?_⟩
    rw [List.map_take, ← h8]
    simp only [Nat.mul_one]
    rw [List.take_take]
    congr 1
    omega
section
variable {P : Program} {w : World}
theorem lists_grown {S : Nat → Prop} {w1 w' : World} {base : Nat} {v v' : Value} {σ τ : List SL} (h2 : ∀ s ∈ σ, ListOk (fun b => S b ∧ some b ≠ v.ownBlock) w1 s) (k2 : ∀ s ∈ τ, ListOk (fun b => S b ∧ some b ≠ v.ownBlock) w1 s)
    (hr : w'.ownsRow base 22 1 v' (σ ++ τ).length ((σ ++ τ).map cellL)) (hg : w1.grownBy w' v.ownBlock) (hat : v'.ownBlock = v.ownBlock ∨ v'.ownBlock = some w1.heap.size) : OwnLists S w' base v' (σ ++ τ) := by
  refine ⟨hr, fun s hs => ?_⟩
  have h3 : ListOk (fun b => S b ∧ some b ≠ v.ownBlock) w1 s := (List.mem_append.1 hs).elim (h2 s) (k2 s)
  have h4 := (h3.mono (S' := fun b => (S b ∧ some b ≠ v.ownBlock) ∧ b < w1.heap.size) fun b hb hp => ⟨hp, hb⟩).keep (w' := w') fun _ _ hp hc => hg.cell hc hp.1.2
  exact h4.mono fun b _ hp => ⟨hp.1.1, by
    rcases hat with e | e
    · rw [e]; exact hp.1.2
    · rw [e]; intro e2; injection e2 with e2; omega⟩
/-- 'append(v, x)': v is the call's own row of lists; x lies in a new block. -/
theorem wpList_append_sl {ops : Array Oper} {rest : List Oper} {o : Oper} {a : Act} {Q : Exit → Act → World → Prop} (hgd : o.guard = none) (s x : Operand) (t : TypeId)
    (ho : o.op = .call { callee := .builtin .append, args := #[s, x], argTypes := #[t, t] }) (base : Nat) (i : TypeInfo) (z : Value)
    (ht : P.underlying t = some (.slice 22)) (hi : P.info? 22 = some i) (hz : i.zero = some z) (hsize : i.size = 1) (hby : i.bytes = 24) (hzs : z.cells.size = 1)
    (v : Value) (l : List SL) (hs : a.eval s = v) (S : Nat → Prop) (hown : OwnLists S w base v l)
    (sn : SL) (hk : ListOk (fun b => S b ∧ some b ≠ v.ownBlock) w sn) (T : TypeId) (cs : Array Value) (hcs : cs = #[cellL sn]) (H : Nat) (hH : w.heap.size = H) (hx : a.eval x = .slice (some ⟨H, 0, none⟩) 1 1)
    (hl : l.length ≤ 4194304) (hbase : base ≤ w.heap.size)
    (h : ∀ v' w', OwnLists S w' base v' (l ++ [sn]) → (w.alloc (.cells cs T)).grownBy w' v.ownBlock → (v'.ownBlock = v.ownBlock ∨ v'.ownBlock = some (w.alloc (.cells cs T)).heap.size) → wpList P ops Q rest (a.put o.dst v') w') : wpList P ops Q (o :: rest) a (w.alloc (.cells cs T)) := by
  subst hcs
  subst hH
  refine wpList_plain hgd fun K hK => ?_
  obtain ⟨v', w', hrun, h1, h2, -, h4⟩ := run_append_own_at (P := P) (w.alloc (.cells #[cellL sn] T)) base t o.type 22 i z 1 24 ht hi hz hsize hby hzs (by decide) v l.length _ (hown.1.alloc _) ⟨w.heap.size, 0, none⟩ 1 1 [cellL sn] rfl (fun j u hu => by
      have hj : j = 0 := by
        rcases j with _ | j
        · rfl
        · simp at hu
      subst hj
      rw [show (⟨w.heap.size, 0, none⟩ : Addr).add 0 = ⟨w.heap.size, 0, none⟩ by unfold Addr.add; simp]
      rw [cell_of_row _ w.heap.size 0 _ T (0, 0) (heap_alloc_new w _)]
      simpa using hu) (fun u hu => by rw [List.mem_singleton.1 hu]; rfl) (by have : maxLen = 9223372036854775807 := rfl; omega) (by omega) (by simp; omega)
  unfold Oper.wp
  simp [execOp, ho, resolve, invoke, builtin, hs, hx, hrun, Result.andThen]
  refine hK _ _ (h v' w' (lists_grown (w1 := w.alloc (.cells #[cellL sn] T)) (fun s hs => (hown.2 s hs).below ((Below.refl _ _).alloc (Nat.le_refl _) _)) (fun s hs => by rw [List.mem_singleton.1 hs]; exact hk.below ((Below.refl _ _).alloc (Nat.le_refl _) _)) ?_ h2 h4) h2 h4)
  rw [List.map_append, List.length_append]
  exact h1
end
theorem infoLists : (Try.prog.info? 22).map (fun i => (i.zero, i.size, i.bytes)) = some (some (.slice none 0 0), 1, 24) := by kernel_rfl
end Go.Proofs.Ytcpmcgbjmncalaa.Tree
