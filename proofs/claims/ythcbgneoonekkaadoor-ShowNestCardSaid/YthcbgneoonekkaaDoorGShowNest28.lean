/-
  What calls leave that hand back nodes; kids moved. By an AI agent.
-/
import Derived.Test.YthcbgneoonekkaaDoorGShowNest12
import Derived.Test.YthcbgneoonekkaaDoorGShowNest6
import Derived.Deep.RegionHeld
namespace Go.Proofs.YthcbgneoonekkaaDoor.Tree
open Go.RowKit Go.Proofs.YthcbgneoonekkaaDoor.Ints

/-- What a call leaves that hands back nodes, in blocks of S. -/
def GotNodes (S : Nat → Prop) (w : World) (m : List Nd) (e : Ending) (w' : World) : Prop :=
  ∃ A c, e = .returned (.slice A m.length c) ∧ Nodes S w' A m ∧ m.length ≤ c ∧ c ≤ maxLen ∧ Below w.heap.size w w'
theorem GotNodes.none0 {S : Nat → Prop} {w w' : World} (hb : Below w.heap.size w w') : GotNodes S w [] (.returned (.slice none 0 0)) w' := ⟨none, 0, rfl, Nodes.nil _ _ _, Nat.le_refl _, by decide, hb⟩
theorem GotNodes.own {S : Nat → Prop} {w w' : World} {base : Nat} {v : Value} {σ : List SNd} {m : List Nd} (h : OwnNodes S w' base v σ) (hm : σ.map (·.1) = m) (hS : ∀ b, base ≤ b → b < w'.heap.size → S b) (hb : Below w.heap.size w w') : GotNodes S w m (.returned v) w' := by
  obtain ⟨A, c, rfl, h2, h3, h4⟩ := h.reads hS
  subst hm
  exact ⟨A, c, by rw [List.length_map], h2, by rw [List.length_map]; exact h3, h4, hb⟩
theorem GotNodes.mono {S S' : Nat → Prop} {w : World} {m : List Nd} {e : Ending} {w' : World} (h : GotNodes S w m e w') (hs : ∀ b, b < w'.heap.size → S b → S' b) : GotNodes S' w m e w' := by
  obtain ⟨A, c, h1, h2, h3⟩ := h
  exact ⟨A, c, h1, h2.mono hs, h3⟩

/-- Kids in a row of one's own, under a node. -/
theorem kid_own {S : Nat → Prop} {w : World} {base : Nat} {kv : Value} {ks : List Int} {nd : Nd} (h : w.ownsRow base 3 1 kv ks.length (ks.map (Value.int .i64))) (hz : ∀ z ∈ ks, (Lit.int .i64 z).wf = true)
    (s0 : small64 nd.kind) (s2 : small64 nd.lo) (s3 : small64 nd.hi) (s1 : nd.name.size ≤ maxLen) (hS : ∀ b, base ≤ b → S b) : ∃ K c, kv = .slice K ks.length c ∧ KidOk S w ({ nd with kids := ks }, K, c) := by
  obtain ⟨K, c, rfl, h1, h2, -, h4⟩ := own_slice h
  exact ⟨K, c, rfl, ⟨s0, s2, s3, s1, Rd.own h hz, h1, h2⟩, fun a e _ => hS _ (h4 a e).1⟩
theorem KidOk.setCell {S : Nat → Prop} {w : World} {s : SNd} (h : KidOk S w s) (p : Addr) (u : Value) (hp : ∀ b, S b → p.block ≠ b) : KidOk S (w.setCell p u) s :=
  h.keep fun q _ hq hc => (World.cell?_setCell_far w p q u (hp _ hq)).trans hc
theorem wf_moved {ks : List Int} {d B : Int} (h : ∀ k ∈ ks, 0 ≤ k ∧ k < B) (hd : -B ≤ d ∧ d ≤ B) (hB : B ≤ 1048576) : ∀ z ∈ ks.map (· + d), (Lit.int .i64 z).wf = true := by
  intro z hz
  obtain ⟨k, hk, rfl⟩ := List.mem_map.1 hz
  have := h k hk
  exact WalkArith.wf_i64 (by omega)
theorem part_cut {l : List Nd} {i f : Nat} (j : Nat) (hj : j < i + 1 - f) : ((l.take (i + 1)).drop f)[j]? = l[f + j]? := by
  rw [List.getElem?_drop, List.getElem?_take_of_lt (by omega)]
theorem part_len {l : List Nd} {i f : Nat} (hi : i < l.length) : ((l.take (i + 1)).drop f).length = i + 1 - f := by
  rw [List.length_drop, List.length_take]; omega
/-- A slice from a place up to a place. -/
theorem slice_part {P : Program} (t : TypeId) (ht : P.underlying t = some (.slice (P.elem t))) (size : Nat) (hs : (P.info? (P.elem t)).map (·.size) = some size) (A : Option Addr) (n cap k m : Nat) (hk : k ≤ m) (hm : m ≤ cap) (W : World) :
    (Instr.slice t (.slice A n cap) (some (.int .i64 (k : Int))) (some (.int .i64 (m : Int))) none).run P W = .ok (.slice (fromAddr A cap k size) (m - k) (cap - k)) W := by
  rw [run_slice_lh W t A n cap ht .i64 .i64 (k : Int) (m : Int) (by omega) (by omega) (by omega)]
  obtain ⟨i, hi, hz⟩ := Option.map_eq_some_iff.1 hs
  simp [sizeOf, typeInfo, hi, hz, Result.andThen, sliced, fromAddr]
theorem sizeElemNodes : (Tryd.prog.info? (Tryd.prog.elem 23)).map (·.size) = some 5 := by kernel_rfl
theorem typeNodes : Tryd.prog.underlying 23 = some (.slice (Tryd.prog.elem 23)) := by kernel_rfl

/-- The moved kids of the nodes of a part. -/
def cutL (l : List Nd) (f i : Nat) : List Nd := ((l.take (i + 1)).drop f).map (shiftNd (-(f : Int)))
theorem cut_next {l : List Nd} {f i j : Nat} {nd : Nd} (hi : i < l.length) (hj : j < i + 1 - f) (h : l[f + j]? = some nd) : (cutL l f i).take (j + 1) = (cutL l f i).take j ++ [shiftNd (-(f : Int)) nd] := by
  unfold cutL
  have hl := part_len (f := f) hi
  have hj' : j < (((l.take (i + 1)).drop f).map (shiftNd (-(f : Int)))).length := by rw [List.length_map, hl]; exact hj
  rw [List.take_succ_eq_append_getElem hj']
  congr 2
  rw [List.getElem_map]
  have := part_cut (l := l) (i := i) (f := f) j hj
  rw [h, List.getElem?_eq_getElem (by omega)] at this
  rw [Option.some.inj this]

theorem kid_cells {nd : Nd} {ks : List Int} {K : Option Addr} {c m : Nat} (h : ks.length = m) : cellsS ({ nd with kids := ks }, K, c) = [.int .i64 nd.kind, .string nd.name, .int .i64 nd.lo, .int .i64 nd.hi, .slice K m c] := by
  subst h; rfl
theorem moved_next (ks : List Int) (j t : Nat) (d : Int) (h : ks.take (j + 1) = ks.take j ++ [(t : Int)]) : ((ks.take j).map (· + d)) ++ [(t : Int) + d] = (ks.take (j + 1)).map (· + d) := by
  rw [h, List.map_append]; rfl
end Go.Proofs.YthcbgneoonekkaaDoor.Tree
