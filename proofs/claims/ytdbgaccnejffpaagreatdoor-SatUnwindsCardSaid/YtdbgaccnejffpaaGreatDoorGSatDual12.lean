/-
  Slices of lists of nodes: what they read as; rows of one's own. By an AI agent.
  The walks of the law's one and two. By an AI agent.
-/
import Derived.Test.YtdbgaccnejffpaaGreatDoorGSatDual4
import Derived.Test.YtdbgaccnejffpaaGreatDoorGSatDual10
import Derived.Test.YtdbgaccnejffpaaGreatDoorGSatDual11
import Derived.Deep.RegionHeld3
import Derived.Deep.AppendLies
namespace Go.Proofs.YtdbgaccnejffpaaGreatDoor.Tree
open Go.RowKit Go.Proofs.YtdbgaccnejffpaaGreatDoor.Ints
abbrev SL := List Nd × Option Addr × Nat
def cellL (s : SL) : Value := .slice s.2.1 s.1.length s.2.2
def ListOk (S : Nat → Prop) (w : World) (s : SL) : Prop := Nodes S w s.2.1 s.1 ∧ s.1.length ≤ s.2.2 ∧ s.2.2 ≤ maxLen
theorem ListOk.keep {S : Nat → Prop} {w w' : World} {s : SL} (h : ListOk S w s) (hk : ∀ p u, S p.block → w.cell? p = some u → w'.cell? p = some u) : ListOk S w' s := ⟨h.1.keep hk, h.2⟩
theorem ListOk.mono {S S' : Nat → Prop} {w : World} {s : SL} (h : ListOk S w s) (hs : ∀ b, b < w.heap.size → S b → S' b) : ListOk S' w s := ⟨h.1.mono hs, h.2⟩
theorem ListOk.below {S : Nat → Prop} {w w' : World} {s : SL} (h : ListOk S w s) (hb : Below w.heap.size w w') : ListOk S w' s := ⟨h.1.below hb, h.2⟩
theorem cellL_one (l : List SL) : ∀ u ∈ l.map cellL, u.oneCell' = true := by
 intro u hu
 obtain ⟨s, -, rfl⟩ := List.mem_map.1 hu
 rfl
def Lists (S : Nat → Prop) (w : World) (A : Option Addr) (l : List SL) : Prop :=
 0 < l.length → ∃ b off, A = some ⟨b, off, none⟩ ∧ S b ∧ ∀ (j : Nat) (s : SL), l[j]? = some s → w.cell? ⟨b, off + j, none⟩ = some (cellL s) ∧ ListOk S w s
def OwnLists (S : Nat → Prop) (w : World) (base : Nat) (v : Value) (l : List SL) : Prop :=
 w.ownsRow base 30 1 v l.length (l.map cellL) ∧ ∀ s ∈ l, ListOk (fun b => S b ∧ some b ≠ v.ownBlock) w s
theorem OwnLists.nil (S : Nat → Prop) (w : World) (base : Nat) : OwnLists S w base (.slice none 0 0) [] := ⟨World.ownsRow_nil _ _ _ _, fun s hs => by simp at hs⟩
theorem OwnLists.keep {S : Nat → Prop} {w w' : World} {base : Nat} {v : Value} {l : List SL} {row : Option Nat} (h : OwnLists S w base v l) (hg : w.grownBy w' row) (hne : v.ownBlock = none ∨ v.ownBlock ≠ row) (hs : ∀ b, S b → some b ≠ row) : OwnLists S w' base v l :=
 ⟨h.1.kept hg hne, fun s hs' => (h.2 s hs').keep fun _ _ hp hc => hg.cell hc (hs _ hp.1)⟩
theorem OwnLists.below {S : Nat → Prop} {w w' : World} {base : Nat} {v : Value} {l : List SL} (h : OwnLists S w base v l) (hb : Below w.heap.size w w') : OwnLists S w' base v l :=
 ⟨below_row h.1 hb, fun s hs => (h.2 s hs).below hb⟩
theorem OwnLists.mono {S S' : Nat → Prop} {w : World} {base : Nat} {v : Value} {l : List SL} (h : OwnLists S w base v l) (hs : ∀ b, b < w.heap.size → S b → S' b) : OwnLists S' w base v l :=
 ⟨h.1, fun s hs' => (h.2 s hs').mono fun b hb hp => ⟨hs b hb hp.1, hp.2⟩⟩
theorem OwnLists.weaken {S : Nat → Prop} {w : World} {base base' : Nat} {v : Value} {l : List SL} (h : OwnLists S w base v l) (hb : base' ≤ base) : OwnLists S w base' v l := ⟨own_weaken h.1 hb, h.2⟩
theorem OwnLists.slice {S : Nat → Prop} {w : World} {base : Nat} {v : Value} {l : List SL} (h : OwnLists S w base v l) : ∃ A c, v = .slice A l.length c ∧ l.length ≤ c ∧ c ≤ maxLen ∧ (A = none → c = 0) ∧ (∀ a, A = some a → base ≤ a.block ∧ a.block < w.heap.size) := own_slice h.1
theorem OwnLists.cell {S : Nat → Prop} {w : World} {base : Nat} {A : Option Addr} {c : Nat} {l : List SL} (h : OwnLists S w base (.slice A l.length c) l) (h0 : 0 < l.length) : ∃ g, A = some ⟨g, 0, none⟩ ∧ ∀ (j : Nat) (s : SL), l[j]? = some s → w.cell? ⟨g, j, none⟩ = some (cellL s) := by
 obtain ⟨g, cap, e, -⟩ := own_form h.1 h0
 injection e with e1 _ e2
 subst e1; subst e2
 refine ⟨g, rfl, fun j s hj => ?_⟩
 have hl : j < l.length := (List.getElem?_eq_some_iff.1 hj).1
 rw [h.1.cellAt j (by simpa using hl), List.getElem?_map, hj]
 rfl
theorem own_len (A : Option Addr) (k n c : Nat) : (Value.slice A k c).ownBlock = (Value.slice A n c).ownBlock := by
 cases A with
 | none => rfl
 | some a => rfl
theorem OwnLists.take {S : Nat → Prop} {w : World} {base : Nat} {A : Option Addr} {n c : Nat} {l : List SL} (h : OwnLists S w base (.slice A n c) l) {k : Nat} (hk : k ≤ l.length) : OwnLists S w base (.slice A k c) (l.take k) := by
 obtain ⟨h1, h2⟩ := h
 have hlen : (l.take k).length = k := by rw [List.length_take]; omega
 have hn : n = l.length := by
  rcases h1.2 with ⟨e, h0⟩ | ⟨g, cap, cur, e, -⟩
  ·injection e with _ e _; omega
  ·injection e with _ e _
 refine ⟨⟨by rw [List.length_map, Nat.mul_one], ?_⟩, fun s hs => by rw [own_len A k n c]; exact h2 s (List.mem_of_mem_take hs)⟩
 rw [hlen]
 rcases h1.2 with ⟨e, h0⟩ | ⟨g, cap, cur, e, h3, h4, h5, h6, h7, h8⟩
 ·injection e with e1 e2 e3
  subst e1; subst e3
  exact .inl ⟨by rw [show k = 0 by omega], by omega⟩
 ·injection e with e1 e2 e3
  subst e1; subst e3
  refine .inr ⟨g, c, cur, rfl, h3, h4, by omega, h6, h7, ?_⟩
  rw [List.map_take, ← h8]
  simp only [Nat.mul_one]
  rw [List.take_take]
  congr 1
  omega
section
variable {P : Program} {w : World}
theorem lists_grown {S : Nat → Prop} {w1 w' : World} {base : Nat} {v v' : Value} {σ τ : List SL} (h2 : ∀ s ∈ σ, ListOk (fun b => S b ∧ some b ≠ v.ownBlock) w1 s) (k2 : ∀ s ∈ τ, ListOk (fun b => S b ∧ some b ≠ v.ownBlock) w1 s)
  (hr : w'.ownsRow base 30 1 v' (σ ++ τ).length ((σ ++ τ).map cellL)) (hg : w1.grownBy w' v.ownBlock) (hat : v'.ownBlock = v.ownBlock ∨ v'.ownBlock = some w1.heap.size) : OwnLists S w' base v' (σ ++ τ) := by
 refine ⟨hr, fun s hs => ?_⟩
 have h3 : ListOk (fun b => S b ∧ some b ≠ v.ownBlock) w1 s := (List.mem_append.1 hs).elim (h2 s) (k2 s)
 have h4 := (h3.mono (S' := fun b => (S b ∧ some b ≠ v.ownBlock) ∧ b < w1.heap.size) fun b hb hp => ⟨hp, hb⟩).keep (w' := w') fun _ _ hp hc => hg.cell hc hp.1.2
 exact h4.mono fun b _ hp => ⟨hp.1.1, by
  rcases hat with e | e
  ·rw [e]; exact hp.1.2
  ·rw [e]; intro e2; injection e2 with e2; omega⟩
theorem wpList_append_sl {ops : Array Oper} {rest : List Oper} {o : Oper} {a : Act} {Q : Exit → Act → World → Prop} (hgd : o.guard = none) (s x : Operand) (t : TypeId)
  (ho : o.op = .call { callee := .builtin .append, args := #[s, x], argTypes := #[t, t] }) (base : Nat) (i : TypeInfo) (z : Value)
  (ht : P.underlying t = some (.slice 30)) (hi : P.info? 30 = some i) (hz : i.zero = some z) (hsize : i.size = 1) (hby : i.bytes = 24) (hzs : z.cells.size = 1)
  (v : Value) (l : List SL) (hs : a.eval s = v) (S : Nat → Prop) (hown : OwnLists S w base v l)
  (sn : SL) (hk : ListOk (fun b => S b ∧ some b ≠ v.ownBlock) w sn) (T : TypeId) (cs : Array Value) (hcs : cs = #[cellL sn]) (H : Nat) (hH : w.heap.size = H) (hx : a.eval x = .slice (some ⟨H, 0, none⟩) 1 1)
  (hl : l.length ≤ 4194304) (hbase : base ≤ w.heap.size)
  (h : ∀ v' w', OwnLists S w' base v' (l ++ [sn]) → (w.alloc (.cells cs T)).grownBy w' v.ownBlock → (v'.ownBlock = v.ownBlock ∨ v'.ownBlock = some (w.alloc (.cells cs T)).heap.size) → wpList P ops Q rest (a.put o.dst v') w') : wpList P ops Q (o :: rest) a (w.alloc (.cells cs T)) := by
 subst hcs
 subst hH
 refine wpList_plain hgd fun K hK => ?_
 obtain ⟨v', w', hrun, h1, h2, -, h4⟩ := run_append_own_at (P := P) (w.alloc (.cells #[cellL sn] T)) base t o.type 30 i z 1 24 ht hi hz hsize hby hzs (by decide) v l.length _ (hown.1.alloc _) ⟨w.heap.size, 0, none⟩ 1 1 [cellL sn] rfl (fun j u hu => by
   have hj : j = 0 := by
    rcases j with _ | j
    ·rfl
    ·simp at hu
   subst hj
   rw [show (⟨w.heap.size, 0, none⟩ : Addr).add 0 = ⟨w.heap.size, 0, none⟩ by unfold Addr.add; simp]
   rw [cell_of_row _ w.heap.size 0 _ T (0, 0) (heap_alloc_new w _)]
   simpa using hu) (fun u hu => by rw [List.mem_singleton.1 hu]; rfl) (by have : maxLen = 9223372036854775807 := rfl; omega) (by omega) (by simp; omega)
 unfold Oper.wp
 simp [execOp, ho, resolve, invoke, builtin, hs, hx, hrun, Result.andThen]
 refine hK _ _ (h v' w' (lists_grown (w1 := w.alloc (.cells #[cellL sn] T)) (fun s hs => (hown.2 s hs).below ((Below.refl _ _).alloc (Nat.le_refl _) _)) (fun s hs => by rw [List.mem_singleton.1 hs]; exact hk.below ((Below.refl _ _).alloc (Nat.le_refl _) _)) ?_ h2 h4) h2 h4)
 rw [List.map_append, List.length_append]
 exact h1
end
theorem infoLists : (Tryz.prog.info? 30).map (fun i => (i.zero, i.size, i.bytes)) = some (some (.slice none 0 0), 1, 24) := by kernel_rfl
end Go.Proofs.YtdbgaccnejffpaaGreatDoor.Tree

namespace Go.Proofs.YtdbgaccnejffpaaGreatDoor.Tree
open Go.RowKit Go.Proofs.YtdbgaccnejffpaaGreatDoor.Ints
section
variable {P : Program} {w : World}
theorem step_append_sls {ops : Array Oper} {o : Oper} {a : Act} {K : Act → World → Prop} {Q : Exit → Act → World → Prop} {E : Prop} (hgd : o.guard = none) (s x : Operand) (t : TypeId)
  (ho : o.op = .call { callee := .builtin .append, args := #[s, x], argTypes := #[t, t] }) (base : Nat) (i : TypeInfo) (z : Value)
  (ht : P.underlying t = some (.slice 30)) (hi : P.info? 30 = some i) (hz : i.zero = some z) (hsize : i.size = 1) (hby : i.bytes = 24) (hzs : z.cells.size = 1)
  (v : Value) (l : List SL) (hs : a.eval s = v) (S : Nat → Prop) (hown : OwnLists S w base v l)
  (A : Option Addr) (n c : Nat) (m : List SL) (hm : m.length = n) (hx : a.eval x = .slice A n c) (hnd : Lists (fun b => S b ∧ some b ≠ v.ownBlock) w A m)
  (hl : l.length + n ≤ 4194304) (hbase : base ≤ w.heap.size)
  (h : ∀ v' w', OwnLists S w' base v' (l ++ m) → w.grownBy w' v.ownBlock → (v'.ownBlock = v.ownBlock ∨ v'.ownBlock = some w.heap.size) → K (a.put o.dst v') w') :
  if Region.wanted o (yielded ops a.tmps) = true then Oper.wp P o a w K Q else E := by
 have hw : Region.wanted o (yielded ops a.tmps) = true := by simp [Region.wanted, hgd]
 rw [if_pos hw]
 cases A with
 | some ad =>
  have hnews : ∀ j u, (m.map cellL)[j]? = some u → w.cell? (ad.add j) = some u := fun j u hu => by
   rw [List.getElem?_map] at hu
   obtain ⟨s, hs', rfl⟩ := Option.map_eq_some_iff.1 hu
   have hj : j < m.length := (List.getElem?_eq_some_iff.1 hs').1
   obtain ⟨b, off, e, -, hc⟩ := hnd (by omega)
   injection e with e
   subst e
   have h1 := (hc j s hs').1
   have h2 : (⟨b, off, none⟩ : Addr).add j = ⟨b, off + j, none⟩ := by unfold Addr.add; split <;> simp_all
   rw [h2, h1]
  have e2 : ∀ s ∈ m, ListOk (fun b => S b ∧ some b ≠ v.ownBlock) w s := fun s hs' => by
   obtain ⟨j, hj, rfl⟩ := List.getElem_of_mem hs'
   obtain ⟨b, off, -, -, hc⟩ := hnd (by omega)
   exact (hc j _ (List.getElem?_eq_getElem hj)).2
  obtain ⟨v', w', hrun, h1, h2, -, h4⟩ := run_append_own_at (P := P) w base t o.type 30 i z 1 24 ht hi hz hsize hby hzs (by decide) v l.length _ hown.1 ad n c (m.map cellL) (by rw [List.length_map, hm, Nat.mul_one]) hnews (cellL_one m) (by have : maxLen = 9223372036854775807 := rfl; omega) (by omega) hbase
  unfold Oper.wp
  simp [execOp, ho, resolve, invoke, builtin, hs, hx, hrun, Result.andThen]
  refine h v' w' (lists_grown (w1 := w) hown.2 e2 ?_ h2 h4) h2 h4
  rw [List.map_append, List.length_append, hm]
  exact h1
 | none =>
  have hn0 : n = 0 := by
   rcases Nat.eq_zero_or_pos n with h' | h'
   ·exact h'
   ·obtain ⟨_, _, e, _⟩ := hnd (by omega)
    cases e
  subst hn0
  have hτ0 : m = [] := List.eq_nil_of_length_eq_zero hm
  subst hτ0
  have hrun : (Builtin.append_ #[t, t] o.type #[v, .slice none 0 c]).run P w = .ok v w := by
   rcases hown.1.2 with ⟨rfl, -⟩ | ⟨g, cap, cur, rfl, _, _, hnc, _⟩
   ·simp [Builtin.append_, run_underlying ht, sizeOf, typeInfo, hi, Builtin.lenOf, Builtin.firstCells]
   ·simp [Builtin.append_, run_underlying ht, sizeOf, typeInfo, hi, Builtin.lenOf, Builtin.firstCells, hnc, storeCells]
  unfold Oper.wp
  simp [execOp, ho, resolve, invoke, builtin, hs, hx, hrun, Result.andThen]
  exact h v w (by rw [List.append_nil]; exact hown) (World.grownBy.refl w _) (Or.inl rfl)
end
theorem bel_alloc {B : Nat} {a w : World} {o : Obj} (h : Below B a w) (hB : B ≤ w.heap.size) : Below B a (w.alloc o) := h.alloc hB o
theorem bel_trans {B : Nat} {a w w' : World} (h : Below B a w) (h2 : Below w.heap.size w w') (hB : B ≤ w.heap.size) : Below B a w' := h.trans (h2.mono hB)
theorem empty_own {S : Nat → Prop} {w : World} {base g : Nat} (h : w.heap[g]? = some (.cells #[] 30 (0, 0))) (hb : base ≤ g) : OwnLists S w base (.slice (some ⟨g, 0, none⟩) 0 0) [] :=
 ⟨⟨rfl, .inr ⟨g, 0, #[], rfl, hb, h, Nat.le_refl _, by decide, rfl, rfl⟩⟩, fun s hs => by simp at hs⟩
theorem blk_below {w w' : World} {g : Nat} {o : Obj} (hb : Below w.heap.size w w') (h : w.heap[g]? = some o) : w'.heap[g]? = some o := by
 have hlt : g < w.heap.size := by
  rcases Nat.lt_or_ge g w.heap.size with h' | h'
  ·exact h'
  ·rw [Array.getElem?_eq_none h'] at h; cases h
 exact (hb.block g hlt).trans h
theorem blk_alloc {w : World} {g : Nat} {o o' : Obj} (h : w.heap[g]? = some o) : (w.alloc o').heap[g]? = some o := blk_below ((Below.refl _ _).alloc (Nat.le_refl _) o') h
theorem blk_drew {w : World} {g : Nat} {o : Obj} (h : w.heap[g]? = some o) : w.drew.heap[g]? = some o := h
theorem blk_grown {w w' : World} {g : Nat} {o : Obj} {row : Option Nat} (hg : w.grownBy w' row) (h : w.heap[g]? = some o) (hne : some g ≠ row) : w'.heap[g]? = some o := by
 have hlt : g < w.heap.size := by
  rcases Nat.lt_or_ge g w.heap.size with h' | h'
  ·exact h'
  ·rw [Array.getElem?_eq_none h'] at h; cases h
 exact (hg.block g hlt hne).trans h
theorem new_at (w : World) (o : Obj) : (w.alloc o).heap[w.heap.size]? = some o := heap_alloc_new w o
theorem new_at2 (w : World) (o1 o2 : Obj) : ((w.alloc o1).alloc o2).heap[w.heap.size + 1]? = some o2 := by
 have := heap_alloc_new (w.alloc o1) o2
 simpa using this
theorem box_lists {S : Nat → Prop} {w : World} {g : Nat} {T : TypeId} {K : Option Addr} {c m : Nat} {l : List Nd} (hm : l.length = m) (h : w.heap[g]? = some (.cells #[.slice K m c] T (0, 0))) (hS : S g) (hk : ListOk S w (l, K, c)) : Lists S w (some ⟨g, 0, none⟩) [(l, K, c)] := by
 subst hm
 refine fun _ => ⟨g, 0, rfl, hS, fun j s hj => ?_⟩
 have hj0 : j = 0 := by
  rcases j with _ | j
  ·rfl
  ·simp at hj
 subst hj0
 simp only [List.getElem?_cons_zero, Option.some.injEq] at hj
 subst hj
 exact ⟨by rw [cell_of_row w g _ _ _ (0, 0) h]; rfl, hk⟩
def Old (S : Nat → Prop) (B : Nat) : Nat → Prop := fun q => S q ∧ q < B
theorem laterX {S : Nat → Prop} {B0 B base : Nat} {w16 w22 : World} {A : Option Addr} {m : List Nd} {v16 : Value} {S2 : Nat → Prop} {l : List SL} (hX : Nodes (From (Old S B0) w16.heap.size) w22 A m) (hown : OwnLists S2 w16 base v16 l) (hb : B0 ≤ base) (hB : B ≤ w16.heap.size) :
  Nodes (fun b => From (Old S B0) B b ∧ some b ≠ v16.ownBlock) w22 A m := by
 refine hX.mono fun b _ hp => ⟨?_, fun e => ?_⟩
 ·rcases hp with hp | hp
  ·exact Or.inl hp
  ·exact Or.inr (Nat.le_trans hB hp)
 ·have := hown.1.lt b e.symm
  rcases hp with ⟨-, hp⟩ | hp
  ·omega
  ·omega
theorem row_part {S : Nat → Prop} {w W : World} {A : Option Addr} {σ : List SL} (hA : Lists S w A σ) (hb : Below w.heap.size w W) (k : Nat) (E : Nat) (hE : w.heap.size ≤ E) : Lists (fun b => Old S w.heap.size b ∧ some b ≠ some E) W A (σ.take k) := fun h0 => by
 have h1 : 0 < σ.length := by rw [List.length_take] at h0; omega
 obtain ⟨b, off, e, hS, hc⟩ := hA h1
 have hlt : ∀ q, q < w.heap.size → S q → Old S w.heap.size q ∧ some q ≠ some E := fun q hq hs => ⟨⟨hs, hq⟩, fun e => by injection e with e; omega⟩
 have hbl := World.block_lt_of_cell? w _ (hc 0 _ (List.getElem?_eq_getElem h1)).1
 refine ⟨b, off, e, hlt _ hbl hS, fun j s hj => ?_⟩
 have hj' : σ[j]? = some s := by
  rw [List.getElem?_take] at hj
  split at hj
  ·exact hj
  ·cases hj
 exact ⟨below_cell hb (hc j s hj').1, ((hc j s hj').2.mono hlt).below hb⟩
theorem own_far {w : World} {base : Nat} {e : TypeId} {size : Nat} {v : Value} {n : Nat} {xs : List Value} (h : w.ownsRow base e size v n xs) : some w.heap.size ≠ v.ownBlock := fun e => by
 have := (h.lt _ e.symm).2; omega
theorem bel_grown {B : Nat} {a w w' : World} {row : Option Nat} (h : Below B a w) (hg : w.grownBy w' row) (hB : B ≤ w.heap.size) (hr : ∀ q, row = some q → B ≤ q) : Below B a w' := h.grown hg hB hr
def GotLists (S : Nat → Prop) (w : World) (m : List (List Nd)) (e : Ending) (w' : World) : Prop :=
 ∃ v τ, e = .returned v ∧ OwnLists S w' w.heap.size v τ ∧ τ.map (·.1) = m ∧ Below w.heap.size w w'
theorem nodeOk_bare (w : World) {nd : Nd} (hk : nd.kids = []) (h : small64 nd.kind ∧ small64 nd.lo ∧ small64 nd.hi ∧ nd.name.size ≤ maxLen) : NodeOk w nd none 0 :=
 ⟨h.1, h.2.1, h.2.2.1, h.2.2.2, by rw [hk]; exact Rd.nil _ _ _, by rw [hk]; exact Nat.le_refl _, by decide⟩
set_option maxHeartbeats 8000000 in
set_option maxRecDepth 100000 in
theorem lawOne (nd0 : Nd) (hk0 : nd0.kids = []) (A : Option Addr) (n c : Nat) (σ : List SL) (S : Nat → Prop) (w : World) (hn : σ.length = n) (h0 : 0 < n) (hn2 : n ≤ 1048576) (hnc : n ≤ c) (hlen : ∀ s ∈ σ, s.1.length ≤ 1048576)
  (hsm : small64 nd0.kind ∧ small64 nd0.lo ∧ small64 nd0.hi ∧ nd0.name.size ≤ maxLen) (hA : Lists S w A σ) :
  Calls Tryz.prog 26 #[.slice A n c, .agg #[.int .i64 nd0.kind, .string nd0.name, .int .i64 nd0.lo, .int .i64 nd0.hi, .slice none 0 0]] w
   (GotLists (From S w.heap.size) w ((σ.map (·.1)).take (n - 1) ++ [overL nd0 ((σ.map (·.1)).getD (n - 1) []) []])) := by
 obtain ⟨j0, hj0, hy0, hy1, hy2⟩ := info_parts infoLists
 have hni : (n : Int) ≤ 1048576 := by omega
 have hn1 : (0 : Int) ≤ (n : Int) - 1 := by omega
 have hn1' : decide ((n : Int) - 1 < 0) = false := by simp; omega
 obtain ⟨g, off, e, hg, hc⟩ := hA (by omega)
 obtain ⟨s, hs⟩ : ∃ s, σ[n - 1]? = some s := ⟨_, List.getElem?_eq_getElem (by omega)⟩
 obtain ⟨x0, hok, -, -⟩ := hc (n - 1) s hs
 have hls := hlen s (List.mem_of_getElem? hs)
 obtain ⟨l, K, cK⟩ := s
 simp only at hok hls
 obtain ⟨m, hm⟩ : ∃ m, l.length = m := ⟨_, rfl⟩
 have x1 : w.cell? ⟨g, off + (n - 1), none⟩ = some (.slice K m cK) := by rw [x0]; show some (Value.slice K l.length cK) = _; rw [hm]
 have hk00 : nd0.kids.length = 0 := by rw [hk0]; rfl
 have hov := fun W (hb : Below w.heap.size w W) => refOver nd0 none 0 K none m 0 cK 0 l [] (Old S w.heap.size) W hm rfl (by omega) (by omega) (nodeOk_bare W hk0 hsm) ((hok.mono (S' := Old S w.heap.size) fun q hq hp => ⟨hp, hq⟩).below hb) (Nodes.nil _ _ _) movable_nil
 rw [hk00] at hov
 have HOV := Lib.hid hov
 clear hov hk00
 obtain ⟨W0, hW0⟩ : ∃ W0, w.alloc (.cells #[.int .i64 nd0.kind, .string nd0.name, .int .i64 nd0.lo, .int .i64 nd0.hi, .slice none 0 0] 37) = W0 := ⟨_, rfl⟩
 have hB0 : Below w.heap.size w W0 := by rw [← hW0]; exact (Below.refl _ _).alloc (Nat.le_refl _) _
 have b0 : W0.cell? ⟨w.heap.size, 0, none⟩ = some (.int .i64 nd0.kind) := by rw [← hW0]; exact box_cell 0 _ rfl
 have b1 : W0.cell? ⟨w.heap.size, 1, none⟩ = some (.string nd0.name) := by rw [← hW0]; exact box_cell 1 _ rfl
 have b2 : W0.cell? ⟨w.heap.size, 2, none⟩ = some (.int .i64 nd0.lo) := by rw [← hW0]; exact box_cell 2 _ rfl
 have b3 : W0.cell? ⟨w.heap.size, 3, none⟩ = some (.int .i64 nd0.hi) := by rw [← hW0]; exact box_cell 3 _ rfl
 have b4 : W0.cell? ⟨w.heap.size, 4, none⟩ = some (.slice none 0 0) := by rw [← hW0]; exact box_cell 4 _ rfl
 have b5 := below_cell hB0 x1
 have hz0 : W0.heap.size = w.heap.size + 1 := by rw [← hW0]; simp
 have HW0 := Lib.hid hW0
 have HZ0 := Lib.hid hz0
 have HLS := Lib.hid hA
 have HN := Lib.hid hn
 have HL := Lib.hid hm
 have HK0 := Lib.hid hk0
 have HSN := Lib.hid hs
 have hnn : (1 : Int) ≤ (n : Int) := by omega
 have hnc' : (n : Int) - 1 ≤ (c : Int) := by omega
 have hlt1 : (n : Int) - 1 < (n : Int) := by omega
 subst e
 have HALL := Lib.hid (show ∀ W, Below W0.heap.size W0 W → W.cell? ⟨w.heap.size, 0, none⟩ = some (.int .i64 nd0.kind) ∧ W.cell? ⟨w.heap.size, 1, none⟩ = some (.string nd0.name) ∧ W.cell? ⟨w.heap.size, 2, none⟩ = some (.int .i64 nd0.lo) ∧ W.cell? ⟨w.heap.size, 3, none⟩ = some (.int .i64 nd0.hi) ∧ W.cell? ⟨w.heap.size, 4, none⟩ = some (.slice none 0 0) ∧ W.cell? ⟨g, off + (n - 1), none⟩ = some (.slice K m cK) ∧ Below W0.heap.size W0 W from
  fun W hb => ⟨below_cell hb b0, below_cell hb b1, below_cell hb b2, below_cell hb b3, below_cell hb b4, below_cell hb b5, hb⟩)
 have HLT := Lib.hid (fun W (hb : Below W0.heap.size W0 W) (E : Nat) (hE : w.heap.size ≤ E) => row_part hA (hB0.trans (hb.mono hB0.size)) (n - 1) E hE)
 have HTL2 := Lib.hid (show (([] : List SL) ++ σ.take (n - 1)).length + 1 ≤ 4194304 by rw [List.nil_append, List.length_take]; omega)
 have HLE := Lib.hid (show (σ.map (·.1)).getD (n - 1) [] = l by rw [List.getD_eq_getElem?_getD, List.getElem?_map, hs]; rfl)
 have HWS := Lib.hid (show w.heap.size ≤ W0.heap.size from hB0.size)
 have HTL := Lib.hid (show (σ.take (n - 1)).length = n - 1 by rw [List.length_take]; omega)
 have HOV2 := Lib.hid (fun W (hb : Below W0.heap.size W0 W) => HOV.out W (hB0.trans (hb.mono hB0.size)))
 clear hn hlen hA hc hs x0 hok hls hm x1 hz0 b0 b1 b2 b3 b4 b5 hk0
 go_enter Tryz.func26, Tryz.ntmps26
 go_wp2
 skip
 clear hW0
 go_region_held3 (fun W => W.cell? ⟨w.heap.size, 0, none⟩ = some (.int .i64 nd0.kind) ∧ W.cell? ⟨w.heap.size, 1, none⟩ = some (.string nd0.name) ∧ W.cell? ⟨w.heap.size, 2, none⟩ = some (.int .i64 nd0.lo) ∧ W.cell? ⟨w.heap.size, 3, none⟩ = some (.int .i64 nd0.hi) ∧ W.cell? ⟨w.heap.size, 4, none⟩ = some (.slice none 0 0) ∧ W.cell? ⟨g, off + (n - 1), none⟩ = some (.slice K m cK) ∧ Below W0.heap.size W0 W)
  (first
   | exact HALL.out _ (Below.refl _ _)
   | exact HALL.out _ (Below.refl _ _).drew
   | exact HALL.out _ hB22
   | exact HALL.out _ hB16
   | exact HALL.out _ hB24
   | (go_split_ands; first
     | exact HALL.out _ (bel_alloc (by assumption) (Below.size (by assumption)))
     | exact HALL.out _ (bel_alloc_drew (by assumption) (Below.size (w' := World.drew _) (by assumption))))
   | fail)
  (first
   | (go_at_call 18; refine (HOV2.out _ hB16).mono ?_; rintro e w22 ⟨A5, c5, rfl, hX, hc5, hm5, hb22⟩; have hB22 : Below W0.heap.size W0 w22 := bel_trans hB16 hb22 hB16.size; have hX22 := laterX (B := W0.heap.size) hX hown16 HWS.out hB16.size; have hown22 := hown16.below hb22)
   | (refine step_append_sls rfl (.tmp 12) (.tmp 15) 48 (by rfl) W0.heap.size j0 _ Tryz.underlying48 hj0 hy0 hy1 hy2 (by rfl) (.slice (some ⟨W0.heap.size, 0, none⟩) 0 0) [] (by rfl) (Old S w.heap.size) (empty_own (blk_drew (new_at _ _)) (Nat.le_refl _)) (some ⟨g, off, none⟩) (n - 1) c (σ.take (n - 1)) HTL.out (by rfl) (HLT.out _ (bel_alloc (Below.refl _ _) (Nat.le_refl _)).drew W0.heap.size HWS.out) (by simp; omega) (by simp) ?_; intro v16 w16 hown16 hgr16 hat16; have hB16 : Below W0.heap.size W0 w16 := bel_grown (bel_alloc (Below.refl _ _) (Nat.le_refl _)).drew hgr16 (by simp) (by intro q hq; simp [Value.ownBlock] at hq; omega))
   | (refine step_append_sls rfl (.tmp 16) (.tmp 23) 48 (by rfl) W0.heap.size j0 _ Tryz.underlying48 hj0 hy0 hy1 hy2 (by rfl) v16 _ (by rfl) (From (Old S w.heap.size) W0.heap.size) ((hown22.mono fun _ _ hp => Or.inl hp).below ((Below.refl _ _).alloc (Nat.le_refl _) _)) (some ⟨w22.heap.size, 0, none⟩) 1 1 [(overL nd0 l [], A5, c5)] rfl (by rfl) (box_lists rfl (new_at _ _) ⟨Or.inr hB22.size, own_far hown22.1⟩ ⟨hX22.below ((Below.refl _ _).alloc (Nat.le_refl _) _), hc5, hm5⟩) HTL2.out (le_alloc hB22.size) ?_; intro v24 w24 hown24 hgr24 hat24; have hB24 : Below W0.heap.size W0 w24 := bel_grown (bel_alloc hB22 hB22.size) hgr24 (le_alloc hB22.size) (fun q hq => (hown22.1.lt q hq).1))
   | fail)
 go_wp2
 go_ret
 refine ⟨_, _, rfl, (hown24.mono (S' := From S w.heap.size) fun q _ hp => ?_).weaken HWS.out, ?_, hB0.trans (hB24.mono hB0.size)⟩
 ·rcases hp with ⟨hp, -⟩ | hp
  ·exact Or.inl hp
  ·exact Or.inr (Nat.le_trans HWS.out hp)
 ·rw [List.nil_append, List.map_append, List.map_take, HLE.out]
  rfl
set_option maxHeartbeats 8000000 in
set_option maxRecDepth 100000 in
theorem lawTwo (nd0 : Nd) (hk0 : nd0.kids = []) (A : Option Addr) (n c : Nat) (σ : List SL) (S : Nat → Prop) (w : World) (hn : σ.length = n) (h0 : 1 < n) (hn2 : n ≤ 1048576) (hnc : n ≤ c) (hlen : ∀ s ∈ σ, s.1.length ≤ 1048576)
  (hsm : small64 nd0.kind ∧ small64 nd0.lo ∧ small64 nd0.hi ∧ nd0.name.size ≤ maxLen) (hmv : ∀ s ∈ σ, Movable s.1) (hA : Lists S w A σ) :
  Calls Tryz.prog 27 #[.slice A n c, .agg #[.int .i64 nd0.kind, .string nd0.name, .int .i64 nd0.lo, .int .i64 nd0.hi, .slice none 0 0]] w
   (GotLists (From S w.heap.size) w ((σ.map (·.1)).take (n - 2) ++ [overL nd0 ((σ.map (·.1)).getD (n - 2) []) ((σ.map (·.1)).getD (n - 1) [])])) := by
 obtain ⟨j0, hj0, hy0, hy1, hy2⟩ := info_parts infoLists
 have hni : (n : Int) ≤ 1048576 := by omega
 have hn1 : (0 : Int) ≤ (n : Int) - 2 := by omega
 have hn1' : decide ((n : Int) - 2 < 0) = false := by simp; omega
 obtain ⟨g, off, e, hg, hc⟩ := hA (by omega)
 obtain ⟨s, hs⟩ : ∃ s, σ[n - 2]? = some s := ⟨_, List.getElem?_eq_getElem (by omega)⟩
 obtain ⟨x0, hok, -, -⟩ := hc (n - 2) s hs
 have hls := hlen s (List.mem_of_getElem? hs)
 obtain ⟨l, K, cK⟩ := s
 simp only at hok hls
 obtain ⟨m, hm⟩ : ∃ m, l.length = m := ⟨_, rfl⟩
 have x1 : w.cell? ⟨g, off + (n - 2), none⟩ = some (.slice K m cK) := by rw [x0]; show some (Value.slice K l.length cK) = _; rw [hm]
 obtain ⟨s2, hs2⟩ : ∃ s, σ[n - 1]? = some s := ⟨_, List.getElem?_eq_getElem (by omega)⟩
 obtain ⟨y0, hok2, -, -⟩ := hc (n - 1) s2 hs2
 have hls2 := hlen s2 (List.mem_of_getElem? hs2)
 have hmv2 := hmv s2 (List.mem_of_getElem? hs2)
 obtain ⟨l2, K2, cK2⟩ := s2
 simp only at hok2 hls2 hmv2
 obtain ⟨m2, hm2⟩ : ∃ m2, l2.length = m2 := ⟨_, rfl⟩
 have y1 : w.cell? ⟨g, off + (n - 2 + 1), none⟩ = some (.slice K2 m2 cK2) := by rw [show n - 2 + 1 = n - 1 by omega, y0]; show some (Value.slice K2 l2.length cK2) = _; rw [hm2]
 have hk00 : nd0.kids.length = 0 := by rw [hk0]; rfl
 have hov := fun W (hb : Below w.heap.size w W) => refOver nd0 none 0 K K2 m m2 cK cK2 l l2 (Old S w.heap.size) W hm hm2 (by omega) (by omega) (nodeOk_bare W hk0 hsm) ((hok.mono (S' := Old S w.heap.size) fun q hq hp => ⟨hp, hq⟩).below hb) (hok2.below hb).any hmv2
 rw [hk00] at hov
 have HOV := Lib.hid hov
 clear hov hk00
 obtain ⟨W0, hW0⟩ : ∃ W0, w.alloc (.cells #[.int .i64 nd0.kind, .string nd0.name, .int .i64 nd0.lo, .int .i64 nd0.hi, .slice none 0 0] 37) = W0 := ⟨_, rfl⟩
 have hB0 : Below w.heap.size w W0 := by rw [← hW0]; exact (Below.refl _ _).alloc (Nat.le_refl _) _
 have b0 : W0.cell? ⟨w.heap.size, 0, none⟩ = some (.int .i64 nd0.kind) := by rw [← hW0]; exact box_cell 0 _ rfl
 have b1 : W0.cell? ⟨w.heap.size, 1, none⟩ = some (.string nd0.name) := by rw [← hW0]; exact box_cell 1 _ rfl
 have b2 : W0.cell? ⟨w.heap.size, 2, none⟩ = some (.int .i64 nd0.lo) := by rw [← hW0]; exact box_cell 2 _ rfl
 have b3 : W0.cell? ⟨w.heap.size, 3, none⟩ = some (.int .i64 nd0.hi) := by rw [← hW0]; exact box_cell 3 _ rfl
 have b4 : W0.cell? ⟨w.heap.size, 4, none⟩ = some (.slice none 0 0) := by rw [← hW0]; exact box_cell 4 _ rfl
 have b5 := below_cell hB0 x1
 have b6 := below_cell hB0 y1
 have hlt2 : (n : Int) - 2 + 1 < (n : Int) := by omega
 have hlt3 : (0 : Int) ≤ (n : Int) - 2 + 1 := by omega
 have hix : ((n : Int) - 2 + 1).toNat = n - 2 + 1 := by omega
 have hix0 : ((n : Int) - 2).toNat = n - 2 := by omega
 have hwr : IntKind.i64.wrap ((n : Int) - 2 + 1) = (n : Int) - 2 + 1 := IntWalk.i64_in _ (by omega)
 have hz0 : W0.heap.size = w.heap.size + 1 := by rw [← hW0]; simp
 have HW0 := Lib.hid hW0
 have HZ0 := Lib.hid hz0
 have HLS := Lib.hid hA
 have HN := Lib.hid hn
 have HL := Lib.hid hm
 have HK0 := Lib.hid hk0
 have HSN := Lib.hid hs
 have hnn : (2 : Int) ≤ (n : Int) := by omega
 have hnc' : (n : Int) - 2 ≤ (c : Int) := by omega
 have hlt1 : (n : Int) - 2 < (n : Int) := by omega
 subst e
 have HALL := Lib.hid (show ∀ W, Below W0.heap.size W0 W → W.cell? ⟨w.heap.size, 0, none⟩ = some (.int .i64 nd0.kind) ∧ W.cell? ⟨w.heap.size, 1, none⟩ = some (.string nd0.name) ∧ W.cell? ⟨w.heap.size, 2, none⟩ = some (.int .i64 nd0.lo) ∧ W.cell? ⟨w.heap.size, 3, none⟩ = some (.int .i64 nd0.hi) ∧ W.cell? ⟨w.heap.size, 4, none⟩ = some (.slice none 0 0) ∧ W.cell? ⟨g, off + (n - 2), none⟩ = some (.slice K m cK) ∧ W.cell? ⟨g, off + (n - 2 + 1), none⟩ = some (.slice K2 m2 cK2) ∧ Below W0.heap.size W0 W from
  fun W hb => ⟨below_cell hb b0, below_cell hb b1, below_cell hb b2, below_cell hb b3, below_cell hb b4, below_cell hb b5, below_cell hb b6, hb⟩)
 have HLT := Lib.hid (fun W (hb : Below W0.heap.size W0 W) (E : Nat) (hE : w.heap.size ≤ E) => row_part hA (hB0.trans (hb.mono hB0.size)) (n - 2) E hE)
 have HTL2 := Lib.hid (show (([] : List SL) ++ σ.take (n - 2)).length + 1 ≤ 4194304 by rw [List.nil_append, List.length_take]; omega)
 have HLE2 := Lib.hid (show (σ.map (·.1)).getD (n - 1) [] = l2 by rw [List.getD_eq_getElem?_getD, List.getElem?_map, hs2]; rfl)
 have HLE := Lib.hid (show (σ.map (·.1)).getD (n - 2) [] = l by rw [List.getD_eq_getElem?_getD, List.getElem?_map, hs]; rfl)
 have HWS := Lib.hid (show w.heap.size ≤ W0.heap.size from hB0.size)
 have HTL := Lib.hid (show (σ.take (n - 2)).length = n - 2 by rw [List.length_take]; omega)
 have HOV2 := Lib.hid (fun W (hb : Below W0.heap.size W0 W) => HOV.out W (hB0.trans (hb.mono hB0.size)))
 clear hn hlen hA hc hs x0 hok hls hm x1 hz0 b0 b1 b2 b3 b4 b5 b6 hk0 hs2 y0 hok2 hls2 hmv2 hm2 y1 hmv
 go_enter Tryz.func27, Tryz.ntmps27
 go_wp2
 skip
 clear hW0
 go_region_held3 (fun W => W.cell? ⟨w.heap.size, 0, none⟩ = some (.int .i64 nd0.kind) ∧ W.cell? ⟨w.heap.size, 1, none⟩ = some (.string nd0.name) ∧ W.cell? ⟨w.heap.size, 2, none⟩ = some (.int .i64 nd0.lo) ∧ W.cell? ⟨w.heap.size, 3, none⟩ = some (.int .i64 nd0.hi) ∧ W.cell? ⟨w.heap.size, 4, none⟩ = some (.slice none 0 0) ∧ W.cell? ⟨g, off + (n - 2), none⟩ = some (.slice K m cK) ∧ W.cell? ⟨g, off + (n - 2 + 1), none⟩ = some (.slice K2 m2 cK2) ∧ Below W0.heap.size W0 W)
  (first
   | exact HALL.out _ (Below.refl _ _)
   | exact HALL.out _ (Below.refl _ _).drew
   | exact HALL.out _ hB22
   | exact HALL.out _ hB16
   | exact HALL.out _ hB24
   | (go_split_ands; first
     | exact HALL.out _ (bel_alloc (by assumption) (Below.size (by assumption)))
     | exact HALL.out _ (bel_alloc_drew (by assumption) (Below.size (w' := World.drew _) (by assumption))))
   | fail)
  (first
   | (go_at_call 18; refine (HOV2.out _ hB16).mono ?_; rintro e w22 ⟨A5, c5, rfl, hX, hc5, hm5, hb22⟩; have hB22 : Below W0.heap.size W0 w22 := bel_trans hB16 hb22 hB16.size; have hX22 := laterX (B := W0.heap.size) hX hown16 HWS.out hB16.size; have hown22 := hown16.below hb22)
   | (refine step_append_sls rfl (.tmp 12) (.tmp 15) 48 (by rfl) W0.heap.size j0 _ Tryz.underlying48 hj0 hy0 hy1 hy2 (by rfl) (.slice (some ⟨W0.heap.size, 0, none⟩) 0 0) [] (by rfl) (Old S w.heap.size) (empty_own (blk_drew (new_at _ _)) (Nat.le_refl _)) (some ⟨g, off, none⟩) (n - 2) c (σ.take (n - 2)) HTL.out (by rfl) (HLT.out _ (bel_alloc (Below.refl _ _) (Nat.le_refl _)).drew W0.heap.size HWS.out) (by simp; omega) (by simp) ?_; intro v16 w16 hown16 hgr16 hat16; have hB16 : Below W0.heap.size W0 w16 := bel_grown (bel_alloc (Below.refl _ _) (Nat.le_refl _)).drew hgr16 (by simp) (by intro q hq; simp [Value.ownBlock] at hq; omega))
   | (refine step_append_sls rfl (.tmp 16) (.tmp 28) 48 (by rfl) W0.heap.size j0 _ Tryz.underlying48 hj0 hy0 hy1 hy2 (by rfl) v16 _ (by rfl) (From (Old S w.heap.size) W0.heap.size) ((hown22.mono fun _ _ hp => Or.inl hp).below ((Below.refl _ _).alloc (Nat.le_refl _) _)) (some ⟨w22.heap.size, 0, none⟩) 1 1 [(overL nd0 l l2, A5, c5)] rfl (by rfl) (box_lists rfl (new_at _ _) ⟨Or.inr hB22.size, own_far hown22.1⟩ ⟨hX22.below ((Below.refl _ _).alloc (Nat.le_refl _) _), hc5, hm5⟩) HTL2.out (le_alloc hB22.size) ?_; intro v24 w24 hown24 hgr24 hat24; have hB24 : Below W0.heap.size W0 w24 := bel_grown (bel_alloc hB22 hB22.size) hgr24 (le_alloc hB22.size) (fun q hq => (hown22.1.lt q hq).1))
   | fail)
 go_wp2
 go_ret
 refine ⟨_, _, rfl, (hown24.mono (S' := From S w.heap.size) fun q _ hp => ?_).weaken HWS.out, ?_, hB0.trans (hB24.mono hB0.size)⟩
 ·rcases hp with ⟨hp, -⟩ | hp
  ·exact Or.inl hp
  ·exact Or.inr (Nat.le_trans HWS.out hp)
 ·rw [List.nil_append, List.map_append, List.map_take, HLE.out, HLE2.out]
  rfl
end Go.Proofs.YtdbgaccnejffpaaGreatDoor.Tree
