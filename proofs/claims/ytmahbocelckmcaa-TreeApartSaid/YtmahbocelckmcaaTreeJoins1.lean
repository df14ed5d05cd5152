/-
  Rows of slices hold no numbers; the size of a node's name that came in. For the law TreeJoins. By an AI agent.
-/
import Derived.Test.YtmahbocelckmcaaTreeJoinL
import Derived.Test.YtmahbocelckmcaaTreeLaw2
import Derived.Test.YtmahbocelckmcaaTreeSet
import Derived.SizedLaws
namespace Go.Proofs.Ytmahbocelckmcaa.Tree
open Go.RowKit Go.Proofs.Ytmahbocelckmcaa.Ints

def NotInt (u : Value) : Prop := ∀ (k : IntKind) (x : Int), u ≠ .int k x
def NoIntV (w : World) (v : Value) : Prop := ∀ q, v.ownBlock = some q → NoInt w q
theorem noInt_cells {w : World} {g : Nat} {cs : Array Value} {T : TypeId} {fr : Nat × Nat} (h : w.heap[g]? = some (.cells cs T fr)) (hn : ∀ u ∈ cs.toList, NotInt u) : NoInt w g := fun o k x hc => by
  rw [cell_of_row w g o _ _ _ h] at hc
  exact hn _ (Array.mem_toList_iff.2 (Array.mem_of_getElem? hc)) k x rfl
theorem cells_noInt {w : World} {g : Nat} {cs : Array Value} {T : TypeId} {fr : Nat × Nat} (h : w.heap[g]? = some (.cells cs T fr)) (hn : NoInt w g) : ∀ u ∈ cs.toList, NotInt u := fun u hu k x e => by
  obtain ⟨j, hj, rfl⟩ := List.getElem_of_mem hu
  refine hn j k x ?_
  rw [cell_of_row w g j _ _ _ h, ← Array.getElem?_toList, List.getElem?_eq_getElem hj, e]
theorem cellL_notInt (s : SL) : NotInt (cellL s) := fun k x e => by cases e
theorem zeros_notInt (n : Nat) : ∀ u ∈ (Builtin.zeroCells (Value.slice none 0 0).cells n).toList, NotInt u := fun u hu k x e => by
  subst e
  simp [Builtin.zeroCells, Value.cells] at hu
  obtain ⟨a, -, ha⟩ := hu
  rw [show a % 1 = 0 from Nat.mod_one a] at ha
  cases ha
section
variable {P : Program} {w : World}
theorem append_noInt (base : Nat) (t ty : TypeId) (i : TypeInfo) (ht : P.underlying t = some (.slice 22)) (hi : P.info? 22 = some i) (hz : i.zero = some (.slice none 0 0)) (hsize : i.size = 1) (hby : i.bytes = 24)
    (v : Value) (l : List SL) (hown : w.ownsRow base 22 1 v l.length (l.map cellL)) (hno : NoIntV w v) (a : Addr) (c : Nat) (sn : SL) (hnews : ∀ j u, [cellL sn][j]? = some u → w.cell? (a.add j) = some u) (hl : l.length ≤ 4194304)
    {v' : Value} {w' : World} (hrun : (Builtin.append_ #[t, t] ty #[v, .slice (some a) 1 c]).run P w = .ok v' w') : NoIntV w' v' := by
  have hone : [cellL sn].length = 1 * i.size := by rw [hsize]; rfl
  have holdl : (l.map cellL).length = l.length * i.size := by rw [hsize, List.length_map, Nat.mul_one]
  rcases hown.2 with ⟨rfl, h0⟩ | ⟨g, cap, cur, rfl, hbg, hg, hnc, hcm, hcs, htake⟩
  · have hr := run_append_nil (P := P) w t ty 22 i _ ht hi hz a 1 c [cellL sn] hone hnews (by omega) (by omega) (by rw [hby]; omega)
    rw [hr] at hrun
    injection hrun with e1 e2
    subst e1; subst e2
    intro q hq
    injection hq with hq
    subst hq
    refine noInt_cells (heap_alloc_new w.drew _) fun u hu => ?_
    rw [Array.toList_append, List.mem_append] at hu
    rcases hu with hu | hu
    · rw [List.mem_singleton.1 hu]; exact cellL_notInt sn
    · exact zeros_notInt _ u hu
  · by_cases hroom : l.length + 1 ≤ cap
    · have hfit : l.length * i.size + [cellL sn].length ≤ cur.size := by rw [hsize, hcs]; simp; omega
      have hr := run_append_room (P := P) w t ty 22 i ht hi g l.length cap cur hg a 1 c [cellL sn] hone hnews (fun u hu => by rw [List.mem_singleton.1 hu]; rfl) hroom hfit
      rw [hr] at hrun
      injection hrun with e1 e2
      subst e1; subst e2
      intro q hq
      injection hq with hq
      subst hq
      have hcur := cells_noInt hg (hno g rfl)
      refine noInt_cells (setRow_heap w g cur _ _ _ hg) fun u hu => ?_
      simp only [List.mem_append] at hu
      rcases hu with (hu | hu) | hu
      · exact hcur u (List.mem_of_mem_take hu)
      · rw [List.mem_singleton.1 hu]; exact cellL_notInt sn
      · exact hcur u (List.mem_of_mem_drop hu)
    · have holds : ∀ j u, (l.map cellL)[j]? = some u → w.cell? ((⟨g, 0, none⟩ : Addr).add j) = some u := hown.cells (g := g) rfl
      have hr := run_append_grow (P := P) w t ty 22 i _ ht hi hz ⟨g, 0, none⟩ l.length cap (l.map cellL) holdl holds a 1 c [cellL sn] hone hnews (by omega) (by omega) (growslice_fits (by omega) (by rw [hby]; omega))
      rw [hr] at hrun
      injection hrun with e1 e2
      subst e1; subst e2
      intro q hq
      injection hq with hq
      subst hq
      refine noInt_cells (heap_alloc_new w.drew _) fun u hu => ?_
      simp only [Array.toList_append, List.mem_append] at hu
      rcases hu with (hu | hu) | hu
      · obtain ⟨s, -, rfl⟩ := List.mem_map.1 hu; exact cellL_notInt s
      · rw [List.mem_singleton.1 hu]; exact cellL_notInt sn
      · exact zeros_notInt _ u hu
/-- 'append(v, x)' of one list; the row stays one that holds no numbers. -/
theorem wpList_append_slN {ops : Array Oper} {rest : List Oper} {o : Oper} {a : Act} {Q : Exit → Act → World → Prop} (hgd : o.guard = none) (s x : Operand) (t : TypeId)
    (ho : o.op = .call { callee := .builtin .append, args := #[s, x], argTypes := #[t, t] }) (base : Nat) (i : TypeInfo)
    (ht : P.underlying t = some (.slice 22)) (hi : P.info? 22 = some i) (hz : i.zero = some (.slice none 0 0)) (hsize : i.size = 1) (hby : i.bytes = 24)
    (v : Value) (l : List SL) (hs : a.eval s = v) (S : Nat → Prop) (hown : OwnLists S w base v l) (hno : NoIntV w v)
    (sn : SL) (hk : ListOk (fun b => S b ∧ some b ≠ v.ownBlock) w sn) (ad : Addr) (hx : a.eval x = .slice (some ad) 1 1) (hnew : w.cell? (ad.add 0) = some (cellL sn))
    (hl : l.length ≤ 4194304) (hbase : base ≤ w.heap.size)
    (h : ∀ v' w', OwnLists S w' base v' (l ++ [sn]) → NoIntV w' v' → w.grownBy w' v.ownBlock → (v'.ownBlock = v.ownBlock ∨ v'.ownBlock = some w.heap.size) → wpList P ops Q rest (a.put o.dst v') w') : wpList P ops Q (o :: rest) a w := by
  refine wpList_plain hgd fun K hK => ?_
  have hnews : ∀ j u, [cellL sn][j]? = some u → w.cell? (ad.add j) = some u := fun j u hu => by
    match j, hu with
    | 0, hu => simp at hu; rw [← hu]; exact hnew
  obtain ⟨v', w', hrun, h1, h2, -, h4⟩ := run_append_own_at (P := P) w base t o.type 22 i _ 1 24 ht hi hz hsize hby rfl (by decide) v l.length _ hown.1 ad 1 1 [cellL sn] rfl hnews (fun u hu => by rw [List.mem_singleton.1 hu]; rfl) (by have : maxLen = 9223372036854775807 := rfl; omega) (by omega) hbase
  have hni := append_noInt base t o.type i ht hi hz hsize hby v l hown.1 hno ad 1 sn hnews hl hrun
  unfold Oper.wp
  simp [execOp, ho, resolve, invoke, builtin, hs, hx, hrun, Result.andThen]
  refine hK _ _ (h v' w' (lists_grown (w1 := w) hown.2 (fun s hs => by rw [List.mem_singleton.1 hs]; exact hk) ?_ h2 h4) hni h2 h4)
  rw [List.map_append, List.length_append]
  exact h1
end
theorem NoIntV.kept {w w' : World} {v : Value} {row : Option Nat} (h : NoIntV w v) (hg : w.grownBy w' row) (hlt : ∀ q, v.ownBlock = some q → q < w.heap.size) (hne : v.ownBlock = none ∨ v.ownBlock ≠ row) : NoIntV w' v := fun q hq o k x hc => by
  have hb := hg.block q (hlt q hq) (by
    rw [← hq]
    rcases hne with e | e
    · rw [e] at hq; cases hq
    · exact e)
  exact h q hq o k x ((World.cell?_of_block (a := ⟨q, o, none⟩) hb).symm.trans hc)
theorem NoIntV.below {w w' : World} {v : Value} (h : NoIntV w v) (hb : Below w.heap.size w w') (hlt : ∀ q, v.ownBlock = some q → q < w.heap.size) : NoIntV w' v := fun q hq o k x hc =>
  h q hq o k x ((World.cell?_of_block (a := ⟨q, o, none⟩) (hb.block q (hlt q hq))).symm.trans hc)
theorem Nodes.offV {S : Nat → Prop} {w : World} {A : Option Addr} {l : List Nd} {v : Value} (h : Nodes S w A l) (hv : NoIntV w v) : Nodes (fun b => S b ∧ some b ≠ v.ownBlock) w A l := by
  cases hq : v.ownBlock with
  | none => exact h.mono fun b _ hb => ⟨hb, by simp⟩
  | some q => exact (h.off (hv q hq)).mono fun b _ hb => ⟨hb.1, fun e => hb.2 (Option.some.inj e)⟩

section
variable {H : Type} {enc : TypeId × Value → H} {w : World}
set_option maxRecDepth 100000 in
/-- The size of the name of a node that came in by value. -/
theorem node_name {fuel : Nat} {cs : List Value} {x : DataW H × List MemPlace} {nm : ByteArray} (h : DataW.trod enc Try.prog w 0 (fun _ => true) true fuel 33 cs = some x) (hc : cs[1]? = some (.string nm))
    (hw : ∀ n ∈ x.1.weights Try.prog 33, n ≤ reachBytes) : nm.size ≤ reachBytes := by
  obtain ⟨ys, m, -, hx2, -, hlen, hf⟩ := DataW.trod_struct structNode h
  subst hx2
  have hsz : (Try.prog.fieldsOf 33).size = 4 := by
    have := congrArg List.length fieldsNode
    simpa using this
  obtain ⟨f1, g1, t1, o1⟩ := field_at fieldsNode (i := 1) rfl
  obtain ⟨y1, e1⟩ : ∃ y, ys[1]? = some y := ⟨_, List.getElem?_eq_getElem (by omega)⟩
  have k1 := hf 1 f1 g1
  rw [t1, o1, e1, cellsStr] at k1
  obtain ⟨nm', c1, hy, -⟩ := DataW.trod_string Try.underlying9 k1
  have d1 := one_of c1
  rw [hc] at d1
  injection d1 with d1
  injection d1 with d1
  subst d1
  subst hy
  refine hw nm.data.toList.length ?_
  have ht : ((Try.prog.fieldsOf 33).toList.map (·.type))[1]? = some 9 := by
    rw [List.getElem?_map, Array.getElem?_toList, g1, ← t1]; rfl
  have hd : (ys.map (·.1))[1]? = some (.lit (.string nm.data.toList)) := by rw [List.getElem?_map, e1]; rfl
  have := DataW.weights_mem_each (P := Try.prog) ht hd nm.data.toList.length (by simp [DataW.weights])
  unfold DataW.weights
  rw [structNode]
  exact this
end

theorem join_len (nd : Nd) (ls : List (List Nd)) (h : ∀ l ∈ ls, l.length ≤ 100) : (joinL nd ls).length ≤ 1000 := by
  have h1 : (ls.headD []).length ≤ 100 := by
    cases ls with
    | nil => exact Nat.zero_le _
    | cons a r => exact h a List.mem_cons_self
  have h2 : (ls.tail.getLastD []).length ≤ 100 := by
    by_cases he : ls.tail = []
    · rw [he]; exact Nat.zero_le _
    · rw [List.getLastD_eq_getLast?, List.getLast?_eq_some_getLast he]
      exact h _ (List.mem_of_mem_tail (List.getLast_mem he))
  unfold joinL
  split
  · split
    · rw [over_length]; omega
    · exact Nat.zero_le _
  · exact Nat.zero_le _
/-! ### two rows of lists that are told alike -/
theorem OwnLists.lists {S : Nat → Prop} {w : World} {base : Nat} {A : Option Addr} {c : Nat} {l : List SL} (h : OwnLists S w base (.slice A l.length c) l) : Lists Any w A l := fun h0 => by
  obtain ⟨g, e, hc⟩ := h.cell h0
  exact ⟨g, 0, e, trivial, fun j s hj => ⟨by simpa using hc j s hj, (h.2 s (List.mem_of_getElem? hj)).mono fun _ _ _ => trivial⟩⟩
theorem PileX.lt1 {B D : Nat} {w : World} {base : Nat} {kv wv : Value} {σ ρ : List SL} (h : PileX B D w base kv wv σ ρ) : (∀ q, kv.ownBlock = some q → q < w.heap.size) ∧ (∀ q, wv.ownBlock = some q → q < w.heap.size) :=
  ⟨fun q hq => (h.1.1.lt q hq).2, fun q hq => (h.2.1.1.lt q hq).2⟩
/-- What stands while the law lays its lists. -/
def JMid (w : World) (cs : Array Value) (kv wv : Value) (σ ρ : List SL) (wr : World) : Prop :=
  PileX 0 0 wr (w.heap.size + 1) kv wv σ ρ ∧ NoIntV wr kv ∧ NoIntV wr wv ∧ Below (w.heap.size + 1) (w.alloc (.cells cs 33)) wr ∧ w.heap.size + 1 ≤ wr.heap.size
theorem JMid.below {w : World} {cs : Array Value} {kv wv : Value} {σ ρ : List SL} {wr w1 : World} (h : JMid w cs kv wv σ ρ wr) (hb : Below wr.heap.size wr w1) : JMid w cs kv wv σ ρ w1 := by
  obtain ⟨a1, a2, a3, a6, a7⟩ := h
  exact ⟨a1.below hb, a2.below hb a1.lt1.1, a3.below hb a1.lt1.2, a6.trans (hb.mono a7), Nat.le_trans a7 hb.size⟩
theorem JMid.swap {w : World} {cs : Array Value} {kv wv : Value} {σ ρ : List SL} {wr : World} (h : JMid w cs kv wv σ ρ wr) : JMid w cs wv kv ρ σ wr := ⟨h.1.swap, h.2.2.1, h.2.1, h.2.2.2⟩
theorem JMid.new {w : World} {cs : Array Value} {kv wv : Value} {σ ρ : List SL} {wr : World} (h : JMid w cs kv wv σ ρ wr) {F : List Nd} {A : Option Addr} {c : Nat} (hN : Nodes Any wr A F) (hc : F.length ≤ c) (hm : c ≤ maxLen) :
    ListOk (fun b => Off wv 0 0 b ∧ some b ≠ kv.ownBlock) wr (F, A, c) := by
  obtain ⟨a1, a2, a3, -⟩ := h
  exact ⟨((hN.offV a2).offV a3).mono fun b _ hb => ⟨⟨hb.2, Or.inr (Nat.zero_le _)⟩, hb.1.2⟩, hc, hm⟩
theorem JMid.grow {w : World} {cs : Array Value} {kv wv kv' : Value} {σ σ' ρ : List SL} {wr w1 : World} (h : JMid w cs kv wv σ ρ wr) (hF : OwnLists (Off wv 0 0) w1 (w.heap.size + 1) kv' σ') (hn : NoIntV w1 kv') (hg : wr.grownBy w1 kv.ownBlock)
    (hat : kv'.ownBlock = kv.ownBlock ∨ kv'.ownBlock = some wr.heap.size) : JMid w cs kv' wv σ' ρ w1 := by
  obtain ⟨a1, a2, a3, a6, a7⟩ := h
  refine ⟨a1.grow hF hg hat (Nat.zero_le _), hn, a3.kept hg a1.lt1.2 (apart_swap a1.2.2.1), a6.grown hg a7 (fun q hq => (a1.1.1.lt q hq).1), Nat.le_trans a7 hg.size⟩
theorem below_one {w wr : World} {cs : Array Value} {kv wv : Value} {σ ρ : List SL} (h : JMid w cs kv wv σ ρ wr) : Below w.heap.size w wr :=
  ((Below.refl _ _).alloc (Nat.le_refl _) _).trans (h.2.2.2.1.mono (Nat.le_succ _) |>.mono (by simp))
end Go.Proofs.Ytmahbocelckmcaa.Tree
