/-
  The walk of the reference's Over. By an AI agent.
-/
import Derived.Test.YtdbgaccnejffpaaGreatDoorGSatDual4
import Derived.Test.YtdbgaccnejffpaaGreatDoorGSatDual10
namespace Go.Proofs.YtdbgaccnejffpaaGreatDoor.Tree
open Go.RowKit Go.Proofs.YtdbgaccnejffpaaGreatDoor.Ints
def BoxAt (w : World) (g : Nat) (cs : Array Value) : Prop := w.heap[g]? = some (.cells cs 37 (0, 0))
theorem BoxAt.cell {w : World} {g : Nat} {cs : Array Value} (h : BoxAt w g cs) (o : Nat) (u : Value) (hu : cs[o]? = some u) : w.cell? ⟨g, o, none⟩ = some u := by
 rw [cell_of_row w g o _ _ (0, 0) h]; exact hu
theorem BoxAt.frozen {w : World} {g : Nat} {cs : Array Value} (h : BoxAt w g cs) (o : Nat) : w.frozen? ⟨g, o, none⟩ = false := by
 unfold BoxAt at h
 simp [World.frozen?, h]
theorem BoxAt.grown {w w' : World} {g : Nat} {cs : Array Value} {row : Option Nat} (h : BoxAt w g cs) (hg : w.grownBy w' row) (hne : some g ≠ row) : BoxAt w' g cs := by
 have hlt : g < w.heap.size := by
  rcases Nat.lt_or_ge g w.heap.size with h' | h'
  ·exact h'
  ·unfold BoxAt at h; rw [Array.getElem?_eq_none h'] at h; cases h
 exact (hg.block g hlt hne).trans h
theorem BoxAt.below {w w' : World} {B g : Nat} {cs : Array Value} (h : BoxAt w g cs) (hb : Below B w w') (hlt : g < B) : BoxAt w' g cs := (hb.block g hlt).trans h
theorem BoxAt.lt {w : World} {g : Nat} {cs : Array Value} (h : BoxAt w g cs) : g < w.heap.size := by
 rcases Nat.lt_or_ge g w.heap.size with h' | h'
 ·exact h'
 ·unfold BoxAt at h; rw [Array.getElem?_eq_none h'] at h; cases h
theorem BoxAt.new (w : World) (cs : Array Value) : BoxAt (w.alloc (.cells cs 37)) w.heap.size cs := heap_alloc_new w _
def rootKids (a b : List Nd) : List Int := (if a = [] then [] else [(a.length : Int) - 1]) ++ (if b = [] then [] else [(a.length : Int) + b.length - 1])
theorem over_eq (n : Nd) (a b : List Nd) : overL n a b = a ++ b.map (shiftNd a.length) ++ [{ n with kids := rootKids a b }] := rfl
theorem shift_next {b : List Nd} {d : Int} {j : Nat} {nd : Nd} (h : b[j]? = some nd) : (b.map (shiftNd d)).take (j + 1) = (b.map (shiftNd d)).take j ++ [shiftNd d nd] := by
 obtain ⟨hj, rfl⟩ := List.getElem?_eq_some_iff.1 h
 rw [List.take_succ_eq_append_getElem (by rw [List.length_map]; exact hj), List.getElem_map]
def Movable (b : List Nd) : Prop := ∀ x ∈ b, (∀ k ∈ x.kids, 0 ≤ k ∧ k < 1048576) ∧ x.kids.length ≤ 2
theorem movable_may {b : List Nd} (h : mayL b = true) (hn : b.length ≤ 1048576) : Movable b := by
 intro x hx
 obtain ⟨j, hj, rfl⟩ := List.getElem_of_mem hx
 have hg := List.getElem?_eq_getElem hj
 exact ⟨fun k hk => by have := may_kids h hg k hk; omega, may_arity h hg⟩
theorem movable_nil : Movable [] := fun x hx => by simp at hx
theorem kid_at {nd : Nd} (h : (∀ k ∈ nd.kids, 0 ≤ k ∧ k < 1048576) ∧ nd.kids.length ≤ 2) {j : Nat} (hj : j < nd.kids.length) : ∃ t : Nat, nd.kids[j]?.getD 0 = (t : Int) ∧ t < 1048576 ∧ nd.kids.take (j + 1) = nd.kids.take j ++ [(t : Int)] := by
 have := h.1 nd.kids[j] (List.getElem_mem hj)
 obtain ⟨t, ht⟩ := Int.eq_ofNat_of_zero_le this.1
 refine ⟨t, by rw [List.getElem?_eq_getElem hj]; exact ht, by omega, ?_⟩
 rw [List.take_succ_eq_append_getElem hj, ht]
def From (S : Nat → Prop) (B : Nat) : Nat → Prop := fun b => S b ∨ B ≤ b
theorem made_two (S : Nat → Prop) (w : World) (o1 : Obj) : OwnNodes S ((w.alloc o1).alloc (.cells #[] 37)) (w.heap.size + 1) (.slice (some ⟨w.heap.size + 1, 0, none⟩) 0 0) [] := by
 have := OwnNodes.made S (w.alloc o1) (w.heap.size + 1) (by simp)
 simpa using this
theorem nodes_two {S : Nat → Prop} {w : World} {A : Option Addr} {a : List Nd} (h : Nodes S w A a) (o1 o2 : Obj) : Nodes (fun q => (S q ∧ q < w.heap.size) ∧ some q ≠ (Value.slice (some ⟨w.heap.size + 1, 0, none⟩) 0 0).ownBlock) ((w.alloc o1).alloc o2) A a := by
 have hb : Below w.heap.size w ((w.alloc o1).alloc o2) := ((Below.refl _ _).alloc (Nat.le_refl _) _).alloc (le_alloc (Nat.le_refl _)) _
 refine (h.mono (S' := fun q => (S q ∧ q < w.heap.size) ∧ some q ≠ (Value.slice (some ⟨w.heap.size + 1, 0, none⟩) 0 0).ownBlock) fun q hq hs => ⟨⟨hs, hq⟩, fun e => ?_⟩).below hb
 have : q = w.heap.size + 1 := by simpa [Value.ownBlock] using e
 omega
def Apart (S : Nat → Prop) (B : Nat) (kv : Value) : Nat → Prop := fun q => (S q ∧ q < B) ∨ (B < q ∧ some q ≠ kv.ownBlock)
def OverAt (S : Nat → Prop) (w : World) (cs0 : Array Value) (kv : Value) (ka : List Int) (v : Value) (σ : List SNd) (wr : World) : Prop :=
 OwnNodes (Apart S w.heap.size kv) wr (w.heap.size + 1) v σ ∧ wr.ownsRow (w.heap.size + 1) 3 1 kv ka.length (ka.map (Value.int .i64)) ∧ BoxAt wr w.heap.size cs0 ∧ Below w.heap.size w wr ∧ (kv.ownBlock = none ∨ kv.ownBlock ≠ v.ownBlock)
theorem own_no {w : World} {base : Nat} {e : TypeId} {size : Nat} {v : Value} {n : Nat} {xs : List Value} {g : Nat} (h : w.ownsRow base e size v n xs) (hg : g < base) : some g ≠ v.ownBlock := fun e => by
 have := (h.lt g e.symm).1; omega
theorem OverAt.next {S : Nat → Prop} {w : World} {cs0 : Array Value} {kv : Value} {ka : List Int} {v v' : Value} {σ τ : List SNd} {wo wx w3 : World} {o : Obj} (h : OverAt S w cs0 kv ka v σ wo) (hb : Below wo.heap.size wo wx)
  (h2 : OwnNodes (Apart S w.heap.size kv) w3 (w.heap.size + 1) v' τ) (hg : (wx.alloc o).grownBy w3 v.ownBlock) (hat : v'.ownBlock = v.ownBlock ∨ v'.ownBlock = some (wx.alloc o).heap.size) : OverAt S w cs0 kv ka v' τ w3 := by
 obtain ⟨h1, hk, hx, hB, hne⟩ := h
 have hbo : Below wo.heap.size wo (wx.alloc o) := hb.alloc hb.size o
 have hwo : w.heap.size ≤ wo.heap.size := hB.size
 have hlt : w.heap.size < wo.heap.size := by
  rcases Nat.lt_or_ge w.heap.size wo.heap.size with h' | h'
  ·exact h'
  ·unfold BoxAt at hx; rw [Array.getElem?_eq_none h'] at hx; cases hx
 refine ⟨h2, (below_row hk hbo).kept hg hne, (hx.below hbo hlt).grown hg (own_no h1.1 (Nat.lt_succ_self _)), (hB.trans (hbo.mono hwo)).grown hg (Nat.le_trans hwo hbo.size) (fun q hq => by have := (h1.1.lt q hq).1; omega), ?_⟩
 rcases hne with e | e
 ·exact Or.inl e
 ·refine Or.inr ?_
  rcases hat with e2 | e2
  ·rw [e2]; exact e
  ·rw [e2]
   intro e3
   have := (hk.lt _ e3).2
   have := hbo.size
   omega
theorem kid_apart {S : Nat → Prop} {w wo : World} {cs0 : Array Value} {kv v : Value} {ka : List Int} {σ : List SNd} (h : OverAt S w cs0 kv ka v σ wo) {q : Nat} (hq : wo.heap.size + 1 ≤ q) : Apart S w.heap.size kv q ∧ some q ≠ v.ownBlock := by
 obtain ⟨h1, hk, hx, hB, hne⟩ := h
 have := hB.size
 refine ⟨Or.inr ⟨by omega, fun e => ?_⟩, fun e => ?_⟩
 ·have := (hk.lt q e.symm).2; omega
 ·have := (h1.1.lt q e.symm).2; omega
def Strict (S : Nat → Prop) (B : Nat) : Nat → Prop := fun q => (S q ∧ q < B) ∨ B < q
theorem over_end {S : Nat → Prop} {w wr w5 : World} {cs0 : Array Value} {kv v v5 : Value} {ka ks : List Int} {σ : List SNd} {o : Obj} (h : OverAt S w cs0 kv ka v σ wr) (hk : w5.ownsRow (w.heap.size + 1) 3 1 v5 ks.length (ks.map (Value.int .i64)))
  (hg : (wr.alloc o).grownBy w5 kv.ownBlock) (hat : v5.ownBlock = kv.ownBlock ∨ v5.ownBlock = some (wr.alloc o).heap.size) :
  ∃ K c, v5 = .slice K ks.length c ∧ OwnNodes (Strict S w.heap.size) w5 (w.heap.size + 1) v σ ∧ BoxAt w5 w.heap.size cs0 ∧ Below w.heap.size w w5 ∧ w5.ownsRow (w.heap.size + 1) 3 1 (.slice K ks.length c) ks.length (ks.map (Value.int .i64)) ∧ (∀ q, (Value.slice K ks.length c).ownBlock = some q → some q ≠ v.ownBlock) := by
 obtain ⟨h1, h2, hx, hB, hne⟩ := h
 obtain ⟨K, c, rfl, -, -, -, -⟩ := own_slice hk
 have hba : Below wr.heap.size wr (wr.alloc o) := (Below.refl _ _).alloc (Nat.le_refl _) o
 refine ⟨K, c, rfl, ?_, (hx.below hba hx.lt).grown hg (own_no h2 (Nat.lt_succ_self _)), (hB.alloc hB.size o).grown hg (le_alloc hB.size) (fun q hq => by have := (h2.lt q hq).1; omega), hk, fun q hq e => ?_⟩
 ·refine ((h1.below hba).keep hg ?_ ?_).mono ?_
  ·cases hv : v.ownBlock with
   | none => exact Or.inl rfl
   | some g =>
    refine Or.inr fun e => ?_
    rcases hne with e6 | e6
    ·rw [e6] at e; cases e
    ·exact e6 (hv ▸ e ▸ rfl)
  ·intro q hq e
   rcases hq with ⟨_, hq⟩ | ⟨_, hq⟩
   ·have := (h2.lt q e.symm).1; omega
   ·exact hq e
  ·intro q _ hq
   rcases hq with hq | ⟨hq, _⟩
   ·exact Or.inl hq
   ·exact Or.inr hq
 ·rcases hat with e2 | e2
  ·rw [e2] at hq
   rcases hne with e3 | e3
   ·rw [e3] at hq; cases hq
   ·exact e3 (hq.trans e)
  ·rw [e2] at hq
   injection hq with hq
   have := (h1.1.lt q e.symm).2
   simp at hq
   omega
theorem over_end0 {S : Nat → Prop} {w wr : World} {cs0 : Array Value} {kv v : Value} {ka : List Int} {σ : List SNd} (h : OverAt S w cs0 kv ka v σ wr) :
  ∃ K c, kv = .slice K ka.length c ∧ OwnNodes (Strict S w.heap.size) wr (w.heap.size + 1) v σ ∧ BoxAt wr w.heap.size cs0 ∧ Below w.heap.size w wr ∧ wr.ownsRow (w.heap.size + 1) 3 1 (.slice K ka.length c) ka.length (ka.map (Value.int .i64)) ∧ (∀ q, (Value.slice K ka.length c).ownBlock = some q → some q ≠ v.ownBlock) := by
 obtain ⟨h1, h2, hx, hB, hne⟩ := h
 obtain ⟨K, c, rfl, -, -, -, -⟩ := own_slice h2
 refine ⟨K, c, rfl, h1.mono ?_, hx, hB, h2, fun q hq e => ?_⟩
 ·intro q _ hq
  rcases hq with hq | ⟨hq, _⟩
  ·exact Or.inl hq
  ·exact Or.inr hq
 ·rcases hne with e3 | e3
  ·rw [e3] at hq; cases hq
  ·exact e3 (hq.trans e)
theorem over_root {S : Nat → Prop} {w w5 : World} {cs0 : Array Value} {v : Value} {ks : List Int} {σ : List SNd} {K : Option Addr} {n c : Nat} {nd0 : Nd} (hn : ks.length = n)
  (h : OwnNodes (Strict S w.heap.size) w5 (w.heap.size + 1) v σ ∧ BoxAt w5 w.heap.size cs0 ∧ Below w.heap.size w w5 ∧ w5.ownsRow (w.heap.size + 1) 3 1 (.slice K n c) n (ks.map (Value.int .i64)) ∧ (∀ q, (Value.slice K n c).ownBlock = some q → some q ≠ v.ownBlock))
  (hsm : small64 nd0.kind ∧ small64 nd0.lo ∧ small64 nd0.hi ∧ nd0.name.size ≤ maxLen) (hz : ∀ z ∈ ks, (Lit.int .i64 z).wf = true) :
  OwnNodes (Strict S w.heap.size) (w5.setCell ⟨w.heap.size, 4, none⟩ (.slice K n c)) (w.heap.size + 1) v σ ∧ KidOk (fun q => Strict S w.heap.size q ∧ some q ≠ v.ownBlock) (w5.setCell ⟨w.heap.size, 4, none⟩ (.slice K n c)) ({ nd0 with kids := ks }, K, c) ∧
   (w5.setCell ⟨w.heap.size, 4, none⟩ (.slice K n c)).heap.size = w5.heap.size ∧ w.heap.size + 1 ≤ (w5.setCell ⟨w.heap.size, 4, none⟩ (.slice K n c)).heap.size ∧ Below w.heap.size w (w5.setCell ⟨w.heap.size, 4, none⟩ (.slice K n c)) := by
 obtain ⟨h1, h2, h3, h4, h5⟩ := h
 subst hn
 obtain ⟨s0, s2, s3, s1⟩ := hsm
 have hsz : (w5.setCell ⟨w.heap.size, 4, none⟩ (.slice K ks.length c)).heap.size = w5.heap.size := by simp
 obtain ⟨K', c', e, hk⟩ := kid_own (S := fun q => w.heap.size + 1 ≤ q) h4 hz s0 s2 s3 s1 (fun q hq => hq)
 injection e with e1 _ e3
 subst e1; subst e3
 have hk2 : KidOk (fun q => w.heap.size + 1 ≤ q ∧ some q ≠ v.ownBlock) w5 ({ nd0 with kids := ks }, K, c) := ⟨hk.1, fun a ea hp => ⟨hk.2 a ea hp, by
  obtain ⟨g, cap, e', -⟩ := own_form h4 hp
  injection e' with e'
  have hea : K = some a := ea
  rw [e'] at hea
  injection hea with hea
  exact h5 a.block (by rw [e', ← hea]; rfl)⟩⟩
 refine ⟨⟨?_, ?_⟩, ?_, hsz, by rw [hsz]; exact h2.lt, h3.setCell (Nat.le_refl _) _⟩
 ·exact h1.1.kept (row := some w.heap.size) ⟨rfl, rfl, rfl, by simp, fun i hi hne => Below.heap_setCell w5 _ _ i (fun e => hne (by rw [e]))⟩ (Or.inr (own_no h1.1 (Nat.lt_succ_self _)).symm)
 ·intro s hs
  exact (h1.2 s hs).setCell _ _ (fun q hq e => by
   simp only at e
   rcases hq.1 with hq | hq <;> omega)
 ·exact (hk2.setCell _ _ (fun q hq e => by have := hq.1; simp only at e; omega)).mono fun q _ hq => ⟨Or.inr hq.1, hq.2⟩
theorem below_grownA {B : Nat} {a w w' : World} {o : Obj} {row : Option Nat} (h : Below B a w) (hg : (w.alloc o).grownBy w' row) (hB : B + 1 ≤ w.heap.size) (hr : ∀ q, row = some q → B ≤ q) : Below B a w' :=
 (h.alloc (Nat.le_of_succ_le hB) o).grown hg (le_alloc (Nat.le_of_succ_le hB)) hr
theorem over_done {S : Nat → Prop} {w w6 : World} {v : Value} {nd0 : Nd} {a b : List Nd} {ks : List Int} {σ : List SNd} {K : Option Addr} {c : Nat} (h : OwnNodes (Strict S w.heap.size) w6 (w.heap.size + 1) v (σ ++ [({ nd0 with kids := ks }, K, c)]))
  (hσ : σ.map (·.1) = a ++ b.map (shiftNd a.length)) (hk : rootKids a b = ks) (hb : Below w.heap.size w w6) : GotNodes (From S w.heap.size) w (overL nd0 a b) (.returned v) w6 := by
 have h2 := h.mono (S' := From S w.heap.size) fun q _ hq => by
  rcases hq with ⟨hq, _⟩ | hq
  ·exact Or.inl hq
  ·exact Or.inr (Nat.le_of_lt hq)
 exact GotNodes.own h2 (by rw [List.map_append, hσ, over_eq, hk]; rfl) (fun q hq _ => Or.inr (by omega)) hb
theorem over_start0 {S : Nat → Prop} {w w1 : World} {cs0 : Array Value} {v : Value} {τ : List SNd} (h : OwnNodes (fun q => S q ∧ q < w.heap.size) w1 (w.heap.size + 1) v τ) (hx : BoxAt w1 w.heap.size cs0) (hB : Below w.heap.size w w1) :
  OverAt S w cs0 (.slice none 0 0) [] v τ w1 := ⟨h.mono fun _ _ hq => Or.inl hq, World.ownsRow_nil _ _ _ _, hx, hB, Or.inl rfl⟩
theorem over_start {S : Nat → Prop} {w w1 w2 : World} {cs0 : Array Value} {v kv : Value} {τ : List SNd} {ka : List Int} {o : Obj} (h : OwnNodes (fun q => S q ∧ q < w.heap.size) w1 (w.heap.size + 1) v τ) (hx : BoxAt w1 w.heap.size cs0) (hB : Below w.heap.size w w1)
  (hk : w2.ownsRow w1.heap.size 3 1 kv ka.length (ka.map (Value.int .i64))) (hg : (w1.alloc o).grownBy w2 none) : OverAt S w cs0 kv ka v τ w2 := by
 have hb : Below w1.heap.size w1 w2 := ((Below.refl _ _).alloc (Nat.le_refl _) o).grown hg (le_alloc (Nat.le_refl _)) (fun q hq => by cases hq)
 refine ⟨(h.below hb).mono fun _ _ hq => Or.inl hq, own_weaken hk hx.lt, hx.below hb hx.lt, hB.trans (hb.mono hB.size), ?_⟩
 cases hkb : kv.ownBlock with
 | none => exact Or.inl rfl
 | some g => exact Or.inr fun e => by have := (hk.lt g hkb).1; have := (h.1.lt g e.symm).2; omega
set_option maxHeartbeats 8000000 in
set_option maxRecDepth 100000 in
theorem refOverN (nd0 : Nd) (K0 : Option Addr) (c0 : Nat) (A B : Option Addr) (na nb ca cb : Nat) (a b : List Nd) (S : Nat → Prop) (w : World) (ha : a.length = na) (hb : b.length = nb) (han : na ≤ 1048576) (hbn : nb ≤ 1048576) (hna : na = 0)
  (h0 : NodeOk w nd0 K0 c0) (hA : Nodes S w A a) (hB : Nodes Any w B b) (hmv : Movable b) :
  Calls Tryz.prog 18 #[.agg #[.int .i64 nd0.kind, .string nd0.name, .int .i64 nd0.lo, .int .i64 nd0.hi, .slice K0 nd0.kids.length c0], .slice A na ca, .slice B nb cb] w (GotNodes (From S w.heap.size) w (overL nd0 a b)) := by
 obtain ⟨i0, hi0, hz0, hz1, hz2⟩ := info_parts infoInt
 obtain ⟨j0, hj0, hy0, hy1, hy2⟩ := info_parts infoNode
 have hani : (na : Int) ≤ 1048576 := by omega
 have hbni : (nb : Int) ≤ 1048576 := by omega
 obtain ⟨s0, s2, s3, s1, -, -, -⟩ := h0
 have HSM0 := Lib.hid (⟨s0, s2, s3, s1⟩ : small64 nd0.kind ∧ small64 nd0.lo ∧ small64 nd0.hi ∧ nd0.name.size ≤ maxLen)
 have HLA := Lib.hid ha
 have HLB := Lib.hid hb
 have HAN := Lib.hid han
 have HBN := Lib.hid hbn
 have HNB := Lib.hid hB
 have HMV := Lib.hid hmv
 have HA2 := Lib.hid (fun o1 o2 => nodes_two hA o1 o2)
 have HBW := Lib.hid (fun (o1 o2 : Obj) => show Below w.heap.size w ((w.alloc o1).alloc o2) from ((Below.refl _ _).alloc (Nat.le_refl _) _).alloc (le_alloc (Nat.le_refl _)) _)
 have hna1 : decide ((0 : Int) < (na : Int)) = false := by simp; omega
 have hna2 : decide (0 < na) = false := by simp; omega
 clear s0 s2 s3 s1 ha hb han hbn hB hmv hA hna
 go_enter Tryz.func18, Tryz.ntmps18
 go_wp2_with (first
  | (at_builtin; refine wpList_append_nds rfl (.tmp 14) (.tmp 15) 30 rfl (w.heap.size + 1) j0 _ Tryz.underlying30 hj0 hy0 hy1 hy2 rfl _ [] (by rfl) (fun q => S q ∧ q < w.heap.size) (made_two _ w _) A na ca a HLA.out (by rfl) (HA2.out _ _) (by have := HAN.out; simp; omega) (by simp) ?_; intro v1 w1 τ hτ hown1 hgr1 _; have hbox1 := (BoxAt.new w _).below (B := w.heap.size + 1) ((Below.refl _ _).alloc (by simp) (.cells #[] 37)) (Nat.lt_succ_self _) |>.grown hgr1 (by simp [Value.ownBlock]); have hB1 : Below w.heap.size w w1 := (HBW.out _ _).grown hgr1 (by simp; omega) (by intro z hz; simp [Value.ownBlock] at hz; omega)))
 skip
 rw [List.nil_append] at hown1
 have HOA := Lib.hid (over_start0 hown1 hbox1 hB1)
 have HTA := Lib.hid hτ
 clear hown1 hbox1 hB1 hgr1 hτ
 go_loopw [7, 28] (fun v i wr => ∃ (j : Nat) (σ : List SNd), j ≤ nb ∧ i = .int .i64 j ∧ Hid (σ.map (·.1) = a ++ (b.map (shiftNd a.length)).take j) ∧ OverAt S w #[.int .i64 nd0.kind, .string nd0.name, .int .i64 nd0.lo, .int .i64 nd0.hi, .slice K0 nd0.kids.length c0] (.slice none 0 0) [] v σ wr) (fun _ i _ => nb - (intOf i).toNat)
 case atStart => exact ⟨0, τ, Nat.zero_le _, rfl, by rw [HTA.out, List.take_zero, List.append_nil]; rfl, HOA.out⟩
 case round =>
  obtain ⟨j, σ, hj, rfl, HC, hO⟩ := hrel
  have HSG := Lib.hid (show σ.length = na + j by
   have := congrArg List.length HC.out
   rw [List.length_map, List.length_append, HLA.out, List.length_take, List.length_map, HLB.out] at this
   omega)
  obtain ⟨wo, hwo⟩ : ∃ wo : World, wo = wr := ⟨_, rfl⟩
  rw [← hwo] at hO
  have HO := Lib.hid hO
  have HB := Lib.hid hO.2.2.2.1
  clear hO
  by_cases hjt : j < nb
  ·have hjt' : (j : Int) < (nb : Int) := by omega
   obtain ⟨nd, hnd⟩ : ∃ nd, b[j]? = some nd := ⟨_, List.getElem?_eq_getElem (by have := HLB.out; omega)⟩
   obtain ⟨bb, off, eB, hnodes⟩ := HNB.out (by have := HLB.out; omega)
   obtain ⟨x0, x1, x2, x3, s0, s2, s3, s1, K, cK, x4, hK, hKc, hcK, -, -⟩ := hnodes j nd hnd
   rw [Nat.mul_comm 5 j] at x0 x1 x2 x3 x4
   rw [hwo] at HB
   replace x0 := below_cell HB.out x0
   replace x1 := below_cell HB.out x1
   replace x2 := below_cell HB.out x2
   replace x3 := below_cell HB.out x3
   replace x4 := below_cell HB.out x4
   rw [← hwo] at HB
   have HND := Lib.hid hnd
   have HMN := Lib.hid (HMV.out nd (List.mem_of_getElem? hnd))
   obtain ⟨m, hm⟩ : ∃ m, nd.kids.length = m := ⟨_, rfl⟩
   rw [hm] at x4 hK hKc
   have HMK := Lib.hid hm
   have HRK := Lib.hid hK
   have hm2 : m ≤ 2 := by rw [← hm]; exact HMN.out.2
   have hm64 : (m : Int) ≤ 9223372036854775807 := by omega
   have HSM := Lib.hid (⟨s0, s2, s3, s1⟩ : small64 nd.kind ∧ small64 nd.lo ∧ small64 nd.hi ∧ nd.name.size ≤ maxLen)
   subst eB
   clear hnd hnodes hK hm s0 s2 s3 s1
   go_wp2
   go_loopw [11, 35] (fun kw i wx => ∃ k : Nat, k ≤ m ∧ i = .int .i64 k ∧ wx.ownsRow (wo.heap.size + 1) 3 1 kw k (((nd.kids.take k).map (· + (na : Int))).map (Value.int .i64)) ∧ Below (wo.heap.size + 1) (wo.alloc (.cells #[.int .i64 nd.kind, .string nd.name, .int .i64 nd.lo, .int .i64 nd.hi, .slice K m cK] 37)) wx) (fun _ i _ => m - (intOf i).toNat)
   case atStart => exact ⟨0, Nat.zero_le _, rfl, World.ownsRow_nil _ _ _ _, by rw [hwo]; exact Below.refl _ _⟩
   case round =>
    obtain ⟨k, hk, rfl, hrow, hBx⟩ := hrel
    have hszx : wo.heap.size + 1 ≤ wr.heap.size := by have := hBx.size; simp at this; omega
    have hBo : Below wo.heap.size wo wr := ((Below.refl _ _).alloc (Nat.le_refl _) _).trans (hBx.mono (Nat.le_succ _))
    have HRX := Lib.hid hrow
    have HBX := Lib.hid hBx
    have HBO := Lib.hid hBo
    have HWO := Lib.hid hwo
    clear hrow hBx hBo hwo
    by_cases hkm : k < m
    ·have hkm' : (k : Int) < (m : Int) := by omega
     obtain ⟨t', ht', htk, htake⟩ := kid_at HMN.out (j := k) (by rw [HMK.out]; exact hkm)
     obtain ⟨bk, ok, eK, hkc⟩ := (HRK.out.below (HB.out.trans (HBO.out.mono HB.out.size))).cell (by omega)
     have ck := hkc k hkm
     rw [ht'] at ck
     have HTK := Lib.hid htake
     have htb : (t' : Int) ≤ 1048576 := by omega
     subst eK
     clear ht' htake hkc
     go_wp2_with (at_builtin; refine wpList_append_int1 rfl (.tmp 39) (.tmp 44) 35 rfl .i64 (wo.heap.size + 1) 3 i0 Tryz.underlying35 hi0 hz0 hz1 hz2 _ k _ (by rfl) HRX.out ((t' : Int) + (na : Int)) 3 _ rfl wr.heap.size rfl (by rfl) (by omega) hszx ?_; intro v1 w3 hown1 hgr1 _)
     go_roundw
     case rel =>
      refine ⟨k + 1, by omega, by go_num, ?_, (HBX.out.alloc hszx _).grown hgr1 (le_alloc hszx) (fun z hz => (HRX.out.lt z hz).1)⟩
      rw [← moved_next _ _ _ _ HTK.out]
      exact hown1
     case measure => simp [intOf]; omega
    ·have hge : decide ((k : Int) < (m : Int)) = false := by simp; omega
     have e : k = m := by omega
     subst e
     have hks : nd.kids.take k = nd.kids := List.take_of_length_le (by rw [HMK.out]; exact Nat.le_refl _)
     have hrow := HRX.out
     rw [hks] at hrow
     have hkl : (nd.kids.map (· + (na : Int))).length = k := by rw [List.length_map, HMK.out]
     rw [← hkl] at hrow
     obtain ⟨s0, s2, s3, s1⟩ := HSM.out
     obtain ⟨K', c', e', hko⟩ := kid_own (S := fun q => wo.heap.size + 1 ≤ q) hrow (wf_moved (B := 1048576) (fun x hx => HMN.out.1 x hx) (by omega) (by omega)) s0 s2 s3 s1 (fun q hq => hq)
     rw [hkl] at e'
     subst e'
     have HKO := Lib.hid hko
     have HCS := Lib.hid (kid_cells (nd := nd) (K := K') (c := c') hkl)
     have hbx := HBX.out.mono (show (wo.alloc (.cells #[.int .i64 nd.kind, .string nd.name, .int .i64 nd.lo, .int .i64 nd.hi, .slice K k cK] 37)).heap.size ≤ wo.heap.size + 1 by simp)
     have hx0 := below_cell hbx (box_cell 0 (.int .i64 nd.kind) rfl)
     have hx1 := below_cell hbx (box_cell 1 (.string nd.name) rfl)
     have hx2 := below_cell hbx (box_cell 2 (.int .i64 nd.lo) rfl)
     have hx3 := below_cell hbx (box_cell 3 (.int .i64 nd.hi) rfl)
     have hx4 := below_cell hbx (box_cell 4 (.slice K k cK) rfl)
     have hfz : wr.frozen? ⟨wo.heap.size, 4, none⟩ = false := ((fcell hbx).2 wo.heap.size 4 (by simp)).trans (by simp)
     have HBS := Lib.hid (HBO.out.setCell (p := ⟨wo.heap.size, 4, none⟩) (Nat.le_refl _) (.slice K' k c'))
     have HOX := Lib.hid (HO.out.1.below HBS.out)
     have HSZ := Lib.hid (show w.heap.size + 1 ≤ wr.heap.size by have := HB.out.size; omega)
     have HKN := Lib.hid ((HKO.out.setCell ⟨wo.heap.size, 4, none⟩ (.slice K' k c') (fun q hq e => by simp only at e hq; omega)).mono fun q _ hq => kid_apart HO.out hq)
     have HQ0 := Lib.hid (show (#[.int .i64 nd.kind, .string nd.name, .int .i64 nd.lo, .int .i64 nd.hi, .slice K' k c'] : Array Value) = (cellsS ({ nd with kids := nd.kids.map (· + (na : Int)) }, K', c')).toArray by rw [HCS.out])
     have HQ1 := Lib.hid (show (wr.setCell ⟨wo.heap.size, 4, none⟩ (.slice K' k c')).heap.size = wr.heap.size by simp)
     have HQ2 := Lib.hid (show w.heap.size + 1 ≤ (wr.setCell ⟨wo.heap.size, 4, none⟩ (.slice K' k c')).heap.size by rw [HQ1.out]; exact HSZ.out)
     have HSL := Lib.hid (show σ.length ≤ 4194304 by have := HSG.out; have := HAN.out; omega)
     rw [← HWO.out] at *
     clear hrow hkl hks hko hbx HWO
     go_wp2_with (at_builtin; refine wpList_append_nd rfl (.tmp 49) (.tmp 51) 30 rfl (w.heap.size + 1) j0 _ Tryz.underlying30 hj0 hy0 hy1 hy2 rfl _ σ (by rfl) _ HOX.out ({ nd with kids := nd.kids.map (· + (na : Int)) }, K', c') HKN.out _ _ HQ0.out wr.heap.size HQ1.out (by rfl) HSL.out HQ2.out ?_; intro v1 w3 hown1 hgr1 hat1)
     go_roundw
     case rel => exact ⟨j + 1, σ ++ [({ nd with kids := nd.kids.map (· + (na : Int)) }, K', c')], by omega, by go_num, by rw [List.map_append, HC.out, shift_next HND.out, ← List.append_assoc, HLA.out]; rfl, HO.out.next HBS.out hown1 hgr1 hat1⟩
     case measure => simp [intOf]; omega
  ·have hge : decide ((j : Int) < (nb : Int)) = false := by simp; omega
   have e : j = nb := by omega
   have hO2 := hwo
   subst e
   have HCF := Lib.hid (show σ.map (·.1) = a ++ b.map (shiftNd a.length) by rw [HC.out, List.take_of_length_le (by rw [List.length_map, HLB.out]; exact Nat.le_refl _)])
   have HMX := Lib.hid hO2
   rw [hwo] at HO HB
   clear hwo hO2
   obtain ⟨s0, s2, s3, s1⟩ := HSM0.out
   obtain ⟨e1, e2, e3, e4, e5⟩ := HO.out
   by_cases hnb : 0 < j
   ·have hnb1 : (0 : Int) < (j : Int) := by omega
    have hsum : (1 : Int) ≤ (na : Int) + (j : Int) := by omega
    have HSZ := Lib.hid (show w.heap.size + 1 ≤ wr.heap.size from e3.lt)
    have HRK2 := Lib.hid (show rootKids a b = [] ++ [(na : Int) + (j : Int) - 1] by unfold rootKids; rw [HLA.out, HLB.out, if_pos (List.eq_nil_of_length_eq_zero (by rw [HLA.out]; simpa using hna2)), if_neg (by intro e; rw [e] at HLB; have := HLB.out; simp at this; omega)])
    have HK := Lib.hid e2
    have HWF := Lib.hid (show ∀ z ∈ [] ++ [(na : Int) + (j : Int) - 1], (Lit.int .i64 z).wf = true from fun z hz => by simp at hz; subst hz; exact WalkArith.wf_i64 (by omega))
    have HE3 := Lib.hid e3
    have HE5 := Lib.hid e5
    clear e1 e2 e3 e4 e5
    have HSL := Lib.hid (show σ.length ≤ 4194304 by have := HSG.out; have := HAN.out; have := HBN.out; omega)
    go_wp2_with (first
     | (at_builtin; refine wpList_append_int1 rfl (.tmp 57) (.tmp 64) 35 rfl .i64 (w.heap.size + 1) 3 i0 Tryz.underlying35 hi0 hz0 hz1 hz2 _ _ [] (by rfl) HK.out ((na : Int) + (j : Int) - 1) 3 _ rfl wr.heap.size rfl (by rfl) (by simp) HSZ.out ?_; intro v5 w5 hown5 hgr5 hat5; obtain ⟨K5, c5, e50, hq⟩ := over_end HO.out hown5 hgr5 hat5; subst e50; have hy := over_root rfl hq HSM0.out HWF.out; have HQ := Lib.hid hy; have hc0 := hq.2.1.cell 0 _ rfl; have hc1 := hq.2.1.cell 1 _ rfl; have hc2 := hq.2.1.cell 2 _ rfl; have hc3 := hq.2.1.cell 3 _ rfl; have hc4 := hq.2.1.cell 4 _ rfl; have hfz := hq.2.1.frozen 4; have HQ0 := Lib.hid (show (#[.int .i64 nd0.kind, .string nd0.name, .int .i64 nd0.lo, .int .i64 nd0.hi, .slice K5 ([] ++ [(na : Int) + (j : Int) - 1]).length c5] : Array Value) = (cellsS ({ nd0 with kids := [] ++ [(na : Int) + (j : Int) - 1] }, K5, c5)).toArray from rfl); clear hq hy)
     | (at_builtin; refine wpList_append_nd rfl (.tmp 68) (.tmp 70) 30 rfl (w.heap.size + 1) j0 _ Tryz.underlying30 hj0 hy0 hy1 hy2 rfl _ σ (by rfl) _ HQ.out.1 ({ nd0 with kids := [] ++ [(na : Int) + (j : Int) - 1] }, K5, c5) HQ.out.2.1 _ _ HQ0.out w5.heap.size HQ.out.2.2.1 (by rfl) HSL.out HQ.out.2.2.2.1 ?_; intro v6 w6 hown6 hgr6 _))
    go_ret
    exact over_done hown6 HCF.out HRK2.out (below_grownA HQ.out.2.2.2.2 hgr6 HQ.out.2.2.2.1 (fun q hq => by have := (HQ.out.1.1.lt q hq).1; omega))
   ·have hnb1 : decide ((0 : Int) < (j : Int)) = false := by simp; omega
    have hnb2 : decide (0 < j) = false := by simp; omega
    have HRK2 := Lib.hid (show rootKids a b = [] by unfold rootKids; rw [HLA.out, HLB.out, if_pos (List.eq_nil_of_length_eq_zero (by rw [HLA.out]; simpa using hna2)), if_pos (List.eq_nil_of_length_eq_zero (by rw [HLB.out]; omega)), List.append_nil])
    have HWF := Lib.hid (show ∀ z ∈ ([] : List Int), (Lit.int .i64 z).wf = true from fun z hz => by simp at hz)
    have HSL := Lib.hid (show σ.length ≤ 4194304 by have := HSG.out; have := HAN.out; have := HBN.out; omega)
    clear e1 e2 e3 e4 e5
    obtain ⟨K5, c5, e50, hq⟩ := over_end0 HO.out
    injection e50 with e51 e53 e52; clear e53; subst e51; subst e52
    have hy := over_root rfl hq HSM0.out HWF.out
    have HQ := Lib.hid hy
    have hc0 := hq.2.1.cell 0 _ rfl
    have hc1 := hq.2.1.cell 1 _ rfl
    have hc2 := hq.2.1.cell 2 _ rfl
    have hc3 := hq.2.1.cell 3 _ rfl
    have hc4 := hq.2.1.cell 4 _ rfl
    have hfz := hq.2.1.frozen 4
    have HQ0 := Lib.hid (show (#[.int .i64 nd0.kind, .string nd0.name, .int .i64 nd0.lo, .int .i64 nd0.hi, .slice none 0 0] : Array Value) = (cellsS ({ nd0 with kids := [] }, none, 0)).toArray from rfl)
    clear hq hy
    go_wp2_with (first
     | (at_builtin; refine wpList_append_nd rfl (.tmp 68) (.tmp 70) 30 rfl (w.heap.size + 1) j0 _ Tryz.underlying30 hj0 hy0 hy1 hy2 rfl _ σ (by rfl) _ HQ.out.1 ({ nd0 with kids := [] }, none, 0) HQ.out.2.1 _ _ HQ0.out wr.heap.size HQ.out.2.2.1 (by rfl) HSL.out HQ.out.2.2.2.1 ?_; intro v6 w6 hown6 hgr6 _))
    go_ret
    exact over_done hown6 HCF.out HRK2.out (below_grownA HQ.out.2.2.2.2 hgr6 HQ.out.2.2.2.1 (fun q hq => by have := (HQ.out.1.1.lt q hq).1; omega))
set_option maxHeartbeats 8000000 in
set_option maxRecDepth 100000 in
theorem refOverY (nd0 : Nd) (K0 : Option Addr) (c0 : Nat) (A B : Option Addr) (na nb ca cb : Nat) (a b : List Nd) (S : Nat → Prop) (w : World) (ha : a.length = na) (hb : b.length = nb) (han : na ≤ 1048576) (hbn : nb ≤ 1048576) (hna : 0 < na)
  (h0 : NodeOk w nd0 K0 c0) (hA : Nodes S w A a) (hB : Nodes Any w B b) (hmv : Movable b) :
  Calls Tryz.prog 18 #[.agg #[.int .i64 nd0.kind, .string nd0.name, .int .i64 nd0.lo, .int .i64 nd0.hi, .slice K0 nd0.kids.length c0], .slice A na ca, .slice B nb cb] w (GotNodes (From S w.heap.size) w (overL nd0 a b)) := by
 obtain ⟨i0, hi0, hz0, hz1, hz2⟩ := info_parts infoInt
 obtain ⟨j0, hj0, hy0, hy1, hy2⟩ := info_parts infoNode
 have hani : (na : Int) ≤ 1048576 := by omega
 have hbni : (nb : Int) ≤ 1048576 := by omega
 obtain ⟨s0, s2, s3, s1, -, -, -⟩ := h0
 have HSM0 := Lib.hid (⟨s0, s2, s3, s1⟩ : small64 nd0.kind ∧ small64 nd0.lo ∧ small64 nd0.hi ∧ nd0.name.size ≤ maxLen)
 have HLA := Lib.hid ha
 have HLB := Lib.hid hb
 have HAN := Lib.hid han
 have HBN := Lib.hid hbn
 have HNB := Lib.hid hB
 have HMV := Lib.hid hmv
 have HA2 := Lib.hid (fun o1 o2 => nodes_two hA o1 o2)
 have HBW := Lib.hid (fun (o1 o2 : Obj) => show Below w.heap.size w ((w.alloc o1).alloc o2) from ((Below.refl _ _).alloc (Nat.le_refl _) _).alloc (le_alloc (Nat.le_refl _)) _)
 have hna1 : (0 : Int) < (na : Int) := by omega
 have hna0 : (1 : Int) ≤ (na : Int) := by omega
 clear s0 s2 s3 s1 ha hb han hbn hB hmv hA hna
 go_enter Tryz.func18, Tryz.ntmps18
 go_wp2_with (first
  | (at_builtin; refine wpList_append_nds rfl (.tmp 14) (.tmp 15) 30 rfl (w.heap.size + 1) j0 _ Tryz.underlying30 hj0 hy0 hy1 hy2 rfl _ [] (by rfl) (fun q => S q ∧ q < w.heap.size) (made_two _ w _) A na ca a HLA.out (by rfl) (HA2.out _ _) (by have := HAN.out; simp; omega) (by simp) ?_; intro v1 w1 τ hτ hown1 hgr1 _; have hbox1 := (BoxAt.new w _).below (B := w.heap.size + 1) ((Below.refl _ _).alloc (by simp) (.cells #[] 37)) (Nat.lt_succ_self _) |>.grown hgr1 (by simp [Value.ownBlock]); have hB1 : Below w.heap.size w w1 := (HBW.out _ _).grown hgr1 (by simp; omega) (by intro z hz; simp [Value.ownBlock] at hz; omega))
  | (at_builtin; refine wpList_append_int1 rfl (.tmp 20) (.tmp 24) 35 rfl .i64 w1.heap.size 3 i0 Tryz.underlying35 hi0 hz0 hz1 hz2 (.slice none 0 0) 0 [] (by rfl) (World.ownsRow_nil _ _ _ _) ((na : Int) - 1) 3 _ rfl w1.heap.size rfl (by rfl) (by omega) (Nat.le_refl _) ?_; intro kv w2 hown2 hgr2 _))
 have hz1w : w.heap.size + 1 ≤ w1.heap.size := by have := (BoxAt.lt hbox1); omega
 rw [List.nil_append] at hown1
 have HOA := Lib.hid (over_start hown1 hbox1 hB1 hown2 hgr2)
 have HTA := Lib.hid hτ
 clear hown1 hbox1 hB1 hgr1 hτ hown2 hgr2
 go_loopw [7, 28] (fun v i wr => ∃ (j : Nat) (σ : List SNd), j ≤ nb ∧ i = .int .i64 j ∧ Hid (σ.map (·.1) = a ++ (b.map (shiftNd a.length)).take j) ∧ OverAt S w #[.int .i64 nd0.kind, .string nd0.name, .int .i64 nd0.lo, .int .i64 nd0.hi, .slice K0 nd0.kids.length c0] kv [(na : Int) - 1] v σ wr) (fun _ i _ => nb - (intOf i).toNat)
 case atStart => exact ⟨0, τ, Nat.zero_le _, rfl, by rw [HTA.out, List.take_zero, List.append_nil]; rfl, HOA.out⟩
 case round =>
  obtain ⟨j, σ, hj, rfl, HC, hO⟩ := hrel
  have HSG := Lib.hid (show σ.length = na + j by
   have := congrArg List.length HC.out
   rw [List.length_map, List.length_append, HLA.out, List.length_take, List.length_map, HLB.out] at this
   omega)
  obtain ⟨wo, hwo⟩ : ∃ wo : World, wo = wr := ⟨_, rfl⟩
  rw [← hwo] at hO
  have HO := Lib.hid hO
  have HB := Lib.hid hO.2.2.2.1
  clear hO
  by_cases hjt : j < nb
  ·have hjt' : (j : Int) < (nb : Int) := by omega
   obtain ⟨nd, hnd⟩ : ∃ nd, b[j]? = some nd := ⟨_, List.getElem?_eq_getElem (by have := HLB.out; omega)⟩
   obtain ⟨bb, off, eB, hnodes⟩ := HNB.out (by have := HLB.out; omega)
   obtain ⟨x0, x1, x2, x3, s0, s2, s3, s1, K, cK, x4, hK, hKc, hcK, -, -⟩ := hnodes j nd hnd
   rw [Nat.mul_comm 5 j] at x0 x1 x2 x3 x4
   rw [hwo] at HB
   replace x0 := below_cell HB.out x0
   replace x1 := below_cell HB.out x1
   replace x2 := below_cell HB.out x2
   replace x3 := below_cell HB.out x3
   replace x4 := below_cell HB.out x4
   rw [← hwo] at HB
   have HND := Lib.hid hnd
   have HMN := Lib.hid (HMV.out nd (List.mem_of_getElem? hnd))
   obtain ⟨m, hm⟩ : ∃ m, nd.kids.length = m := ⟨_, rfl⟩
   rw [hm] at x4 hK hKc
   have HMK := Lib.hid hm
   have HRK := Lib.hid hK
   have hm2 : m ≤ 2 := by rw [← hm]; exact HMN.out.2
   have hm64 : (m : Int) ≤ 9223372036854775807 := by omega
   have HSM := Lib.hid (⟨s0, s2, s3, s1⟩ : small64 nd.kind ∧ small64 nd.lo ∧ small64 nd.hi ∧ nd.name.size ≤ maxLen)
   subst eB
   clear hnd hnodes hK hm s0 s2 s3 s1
   go_wp2
   go_loopw [11, 35] (fun kw i wx => ∃ k : Nat, k ≤ m ∧ i = .int .i64 k ∧ wx.ownsRow (wo.heap.size + 1) 3 1 kw k (((nd.kids.take k).map (· + (na : Int))).map (Value.int .i64)) ∧ Below (wo.heap.size + 1) (wo.alloc (.cells #[.int .i64 nd.kind, .string nd.name, .int .i64 nd.lo, .int .i64 nd.hi, .slice K m cK] 37)) wx) (fun _ i _ => m - (intOf i).toNat)
   case atStart => exact ⟨0, Nat.zero_le _, rfl, World.ownsRow_nil _ _ _ _, by rw [hwo]; exact Below.refl _ _⟩
   case round =>
    obtain ⟨k, hk, rfl, hrow, hBx⟩ := hrel
    have hszx : wo.heap.size + 1 ≤ wr.heap.size := by have := hBx.size; simp at this; omega
    have hBo : Below wo.heap.size wo wr := ((Below.refl _ _).alloc (Nat.le_refl _) _).trans (hBx.mono (Nat.le_succ _))
    have HRX := Lib.hid hrow
    have HBX := Lib.hid hBx
    have HBO := Lib.hid hBo
    have HWO := Lib.hid hwo
    clear hrow hBx hBo hwo
    by_cases hkm : k < m
    ·have hkm' : (k : Int) < (m : Int) := by omega
     obtain ⟨t', ht', htk, htake⟩ := kid_at HMN.out (j := k) (by rw [HMK.out]; exact hkm)
     obtain ⟨bk, ok, eK, hkc⟩ := (HRK.out.below (HB.out.trans (HBO.out.mono HB.out.size))).cell (by omega)
     have ck := hkc k hkm
     rw [ht'] at ck
     have HTK := Lib.hid htake
     have htb : (t' : Int) ≤ 1048576 := by omega
     subst eK
     clear ht' htake hkc
     go_wp2_with (at_builtin; refine wpList_append_int1 rfl (.tmp 39) (.tmp 44) 35 rfl .i64 (wo.heap.size + 1) 3 i0 Tryz.underlying35 hi0 hz0 hz1 hz2 _ k _ (by rfl) HRX.out ((t' : Int) + (na : Int)) 3 _ rfl wr.heap.size rfl (by rfl) (by omega) hszx ?_; intro v1 w3 hown1 hgr1 _)
     go_roundw
     case rel =>
      refine ⟨k + 1, by omega, by go_num, ?_, (HBX.out.alloc hszx _).grown hgr1 (le_alloc hszx) (fun z hz => (HRX.out.lt z hz).1)⟩
      rw [← moved_next _ _ _ _ HTK.out]
      exact hown1
     case measure => simp [intOf]; omega
    ·have hge : decide ((k : Int) < (m : Int)) = false := by simp; omega
     have e : k = m := by omega
     subst e
     have hks : nd.kids.take k = nd.kids := List.take_of_length_le (by rw [HMK.out]; exact Nat.le_refl _)
     have hrow := HRX.out
     rw [hks] at hrow
     have hkl : (nd.kids.map (· + (na : Int))).length = k := by rw [List.length_map, HMK.out]
     rw [← hkl] at hrow
     obtain ⟨s0, s2, s3, s1⟩ := HSM.out
     obtain ⟨K', c', e', hko⟩ := kid_own (S := fun q => wo.heap.size + 1 ≤ q) hrow (wf_moved (B := 1048576) (fun x hx => HMN.out.1 x hx) (by omega) (by omega)) s0 s2 s3 s1 (fun q hq => hq)
     rw [hkl] at e'
     subst e'
     have HKO := Lib.hid hko
     have HCS := Lib.hid (kid_cells (nd := nd) (K := K') (c := c') hkl)
     have hbx := HBX.out.mono (show (wo.alloc (.cells #[.int .i64 nd.kind, .string nd.name, .int .i64 nd.lo, .int .i64 nd.hi, .slice K k cK] 37)).heap.size ≤ wo.heap.size + 1 by simp)
     have hx0 := below_cell hbx (box_cell 0 (.int .i64 nd.kind) rfl)
     have hx1 := below_cell hbx (box_cell 1 (.string nd.name) rfl)
     have hx2 := below_cell hbx (box_cell 2 (.int .i64 nd.lo) rfl)
     have hx3 := below_cell hbx (box_cell 3 (.int .i64 nd.hi) rfl)
     have hx4 := below_cell hbx (box_cell 4 (.slice K k cK) rfl)
     have hfz : wr.frozen? ⟨wo.heap.size, 4, none⟩ = false := ((fcell hbx).2 wo.heap.size 4 (by simp)).trans (by simp)
     have HBS := Lib.hid (HBO.out.setCell (p := ⟨wo.heap.size, 4, none⟩) (Nat.le_refl _) (.slice K' k c'))
     have HOX := Lib.hid (HO.out.1.below HBS.out)
     have HSZ := Lib.hid (show w.heap.size + 1 ≤ wr.heap.size by have := HB.out.size; omega)
     have HKN := Lib.hid ((HKO.out.setCell ⟨wo.heap.size, 4, none⟩ (.slice K' k c') (fun q hq e => by simp only at e hq; omega)).mono fun q _ hq => kid_apart HO.out hq)
     have HQ0 := Lib.hid (show (#[.int .i64 nd.kind, .string nd.name, .int .i64 nd.lo, .int .i64 nd.hi, .slice K' k c'] : Array Value) = (cellsS ({ nd with kids := nd.kids.map (· + (na : Int)) }, K', c')).toArray by rw [HCS.out])
     have HQ1 := Lib.hid (show (wr.setCell ⟨wo.heap.size, 4, none⟩ (.slice K' k c')).heap.size = wr.heap.size by simp)
     have HQ2 := Lib.hid (show w.heap.size + 1 ≤ (wr.setCell ⟨wo.heap.size, 4, none⟩ (.slice K' k c')).heap.size by rw [HQ1.out]; exact HSZ.out)
     have HSL := Lib.hid (show σ.length ≤ 4194304 by have := HSG.out; have := HAN.out; omega)
     rw [← HWO.out] at *
     clear hrow hkl hks hko hbx HWO
     go_wp2_with (at_builtin; refine wpList_append_nd rfl (.tmp 49) (.tmp 51) 30 rfl (w.heap.size + 1) j0 _ Tryz.underlying30 hj0 hy0 hy1 hy2 rfl _ σ (by rfl) _ HOX.out ({ nd with kids := nd.kids.map (· + (na : Int)) }, K', c') HKN.out _ _ HQ0.out wr.heap.size HQ1.out (by rfl) HSL.out HQ2.out ?_; intro v1 w3 hown1 hgr1 hat1)
     go_roundw
     case rel => exact ⟨j + 1, σ ++ [({ nd with kids := nd.kids.map (· + (na : Int)) }, K', c')], by omega, by go_num, by rw [List.map_append, HC.out, shift_next HND.out, ← List.append_assoc, HLA.out]; rfl, HO.out.next HBS.out hown1 hgr1 hat1⟩
     case measure => simp [intOf]; omega
  ·have hge : decide ((j : Int) < (nb : Int)) = false := by simp; omega
   have e : j = nb := by omega
   have hO2 := hwo
   subst e
   have HCF := Lib.hid (show σ.map (·.1) = a ++ b.map (shiftNd a.length) by rw [HC.out, List.take_of_length_le (by rw [List.length_map, HLB.out]; exact Nat.le_refl _)])
   have HMX := Lib.hid hO2
   rw [hwo] at HO HB
   clear hwo hO2
   obtain ⟨s0, s2, s3, s1⟩ := HSM0.out
   obtain ⟨e1, e2, e3, e4, e5⟩ := HO.out
   by_cases hnb : 0 < j
   ·have hnb1 : (0 : Int) < (j : Int) := by omega
    have hsum : (1 : Int) ≤ (na : Int) + (j : Int) := by omega
    have HSZ := Lib.hid (show w.heap.size + 1 ≤ wr.heap.size from e3.lt)
    have HRK2 := Lib.hid (show rootKids a b = [(na : Int) - 1] ++ [(na : Int) + (j : Int) - 1] by unfold rootKids; rw [HLA.out, HLB.out, if_neg (by intro e; rw [e] at HLA; have := HLA.out; simp at this; omega), if_neg (by intro e; rw [e] at HLB; have := HLB.out; simp at this; omega)])
    have HK := Lib.hid e2
    have HWF := Lib.hid (show ∀ z ∈ [(na : Int) - 1] ++ [(na : Int) + (j : Int) - 1], (Lit.int .i64 z).wf = true from fun z hz => by simp at hz; rcases hz with rfl | rfl <;> exact WalkArith.wf_i64 (by omega))
    have HE3 := Lib.hid e3
    have HE5 := Lib.hid e5
    clear e1 e2 e3 e4 e5
    have HSL := Lib.hid (show σ.length ≤ 4194304 by have := HSG.out; have := HAN.out; have := HBN.out; omega)
    go_wp2_with (first
     | (at_builtin; refine wpList_append_int1 rfl (.tmp 57) (.tmp 64) 35 rfl .i64 (w.heap.size + 1) 3 i0 Tryz.underlying35 hi0 hz0 hz1 hz2 _ _ [(na : Int) - 1] (by rfl) HK.out ((na : Int) + (j : Int) - 1) 3 _ rfl wr.heap.size rfl (by rfl) (by simp) HSZ.out ?_; intro v5 w5 hown5 hgr5 hat5; obtain ⟨K5, c5, e50, hq⟩ := over_end HO.out hown5 hgr5 hat5; subst e50; have hy := over_root rfl hq HSM0.out HWF.out; have HQ := Lib.hid hy; have hc0 := hq.2.1.cell 0 _ rfl; have hc1 := hq.2.1.cell 1 _ rfl; have hc2 := hq.2.1.cell 2 _ rfl; have hc3 := hq.2.1.cell 3 _ rfl; have hc4 := hq.2.1.cell 4 _ rfl; have hfz := hq.2.1.frozen 4; have HQ0 := Lib.hid (show (#[.int .i64 nd0.kind, .string nd0.name, .int .i64 nd0.lo, .int .i64 nd0.hi, .slice K5 ([(na : Int) - 1] ++ [(na : Int) + (j : Int) - 1]).length c5] : Array Value) = (cellsS ({ nd0 with kids := [(na : Int) - 1] ++ [(na : Int) + (j : Int) - 1] }, K5, c5)).toArray from rfl); clear hq hy)
     | (at_builtin; refine wpList_append_nd rfl (.tmp 68) (.tmp 70) 30 rfl (w.heap.size + 1) j0 _ Tryz.underlying30 hj0 hy0 hy1 hy2 rfl _ σ (by rfl) _ HQ.out.1 ({ nd0 with kids := [(na : Int) - 1] ++ [(na : Int) + (j : Int) - 1] }, K5, c5) HQ.out.2.1 _ _ HQ0.out w5.heap.size HQ.out.2.2.1 (by rfl) HSL.out HQ.out.2.2.2.1 ?_; intro v6 w6 hown6 hgr6 _))
    go_ret
    exact over_done hown6 HCF.out HRK2.out (below_grownA HQ.out.2.2.2.2 hgr6 HQ.out.2.2.2.1 (fun q hq => by have := (HQ.out.1.1.lt q hq).1; omega))
   ·have hnb1 : decide ((0 : Int) < (j : Int)) = false := by simp; omega
    have hnb2 : decide (0 < j) = false := by simp; omega
    have HRK2 := Lib.hid (show rootKids a b = [(na : Int) - 1] by unfold rootKids; rw [HLA.out, HLB.out, if_neg (by intro e; rw [e] at HLA; have := HLA.out; simp at this; omega), if_pos (List.eq_nil_of_length_eq_zero (by rw [HLB.out]; omega)), List.append_nil])
    have HWF := Lib.hid (show ∀ z ∈ ([(na : Int) - 1] : List Int), (Lit.int .i64 z).wf = true from fun z hz => by simp at hz; subst hz; exact WalkArith.wf_i64 (by omega))
    have HSL := Lib.hid (show σ.length ≤ 4194304 by have := HSG.out; have := HAN.out; have := HBN.out; omega)
    clear e1 e2 e3 e4 e5
    obtain ⟨K5, c5, e50, hq⟩ := over_end0 HO.out
    subst e50
    have hy := over_root rfl hq HSM0.out HWF.out
    have HQ := Lib.hid hy
    have hc0 := hq.2.1.cell 0 _ rfl
    have hc1 := hq.2.1.cell 1 _ rfl
    have hc2 := hq.2.1.cell 2 _ rfl
    have hc3 := hq.2.1.cell 3 _ rfl
    have hc4 := hq.2.1.cell 4 _ rfl
    have hfz := hq.2.1.frozen 4
    have HQ0 := Lib.hid (show (#[.int .i64 nd0.kind, .string nd0.name, .int .i64 nd0.lo, .int .i64 nd0.hi, .slice K5 ([(na : Int) - 1] : List Int).length c5] : Array Value) = (cellsS ({ nd0 with kids := [(na : Int) - 1] }, K5, c5)).toArray from rfl)
    clear hq hy
    go_wp2_with (first
     | (at_builtin; refine wpList_append_nd rfl (.tmp 68) (.tmp 70) 30 rfl (w.heap.size + 1) j0 _ Tryz.underlying30 hj0 hy0 hy1 hy2 rfl _ σ (by rfl) _ HQ.out.1 ({ nd0 with kids := [(na : Int) - 1] }, K5, c5) HQ.out.2.1 _ _ HQ0.out wr.heap.size HQ.out.2.2.1 (by rfl) HSL.out HQ.out.2.2.2.1 ?_; intro v6 w6 hown6 hgr6 _))
    go_ret
    exact over_done hown6 HCF.out HRK2.out (below_grownA HQ.out.2.2.2.2 hgr6 HQ.out.2.2.2.1 (fun q hq => by have := (HQ.out.1.1.lt q hq).1; omega))
theorem refOver (nd0 : Nd) (K0 : Option Addr) (c0 : Nat) (A B : Option Addr) (na nb ca cb : Nat) (a b : List Nd) (S : Nat → Prop) (w : World) (ha : a.length = na) (hb : b.length = nb) (han : na ≤ 1048576) (hbn : nb ≤ 1048576)
  (h0 : NodeOk w nd0 K0 c0) (hA : Nodes S w A a) (hB : Nodes Any w B b) (hmv : Movable b) :
  Calls Tryz.prog 18 #[.agg #[.int .i64 nd0.kind, .string nd0.name, .int .i64 nd0.lo, .int .i64 nd0.hi, .slice K0 nd0.kids.length c0], .slice A na ca, .slice B nb cb] w (GotNodes (From S w.heap.size) w (overL nd0 a b)) := by
 by_cases h : na = 0
 ·exact refOverN nd0 K0 c0 A B na nb ca cb a b S w ha hb han hbn h h0 hA hB hmv
 ·exact refOverY nd0 K0 c0 A B na nb ca cb a b S w ha hb han hbn (by omega) h0 hA hB hmv
end Go.Proofs.YtdbgaccnejffpaaGreatDoor.Tree
