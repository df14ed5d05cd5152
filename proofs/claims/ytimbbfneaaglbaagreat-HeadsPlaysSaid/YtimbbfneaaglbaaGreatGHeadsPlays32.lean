/-
  The walk of the reference's Add. By an AI agent.
-/
import Derived.Test.YtimbbfneaaglbaaGreatGHeadsPlays24
import Derived.Test.YtimbbfneaaglbaaGreatGHeadsPlays7
import Derived.Test.YtimbbfneaaglbaaGreatGHeadsPlays25
namespace Go.Proofs.YtimbbfneaaglbaaGreat.Trace
open Go.RowKit Go.Proofs.YtimbbfneaaglbaaGreat.Ints Go.Proofs.YtimbbfneaaglbaaGreat.Mem

/-- What a call that hands back a trace and an error leaves. -/
def GotTrE (w : World) (t : Tr) (x : Nat) (e : Ending) (w' : World) : Prop :=
  ∃ NA nn nc EA ne ec, e = .returned (.tuple #[.agg #[.slice NA nn nc, .slice EA ne ec], .int .i64 (x : Int)]) ∧ TrOk Any w' NA nn nc EA ne ec t ∧ Below w.heap.size w w'
/-- The boxes of a trace, an event, and the result. -/
abbrev boxA (w : World) (NA : Option Addr) (nn nc : Nat) (EA : Option Addr) (ne ec : Nat) (tm : Int) (K : Option Addr) (n c : Nat) : World :=
  ((boxT w NA nn nc EA ne ec).alloc (.cells #[.int .u64 tm, .slice K n c] 38)).alloc (.cells #[.slice none 0 0, .slice none 0 0] 33)
theorem boxA_size (w : World) (NA : Option Addr) (nn nc : Nat) (EA : Option Addr) (ne ec : Nat) (tm : Int) (K : Option Addr) (n c : Nat) : (boxA w NA nn nc EA ne ec tm K n c).heap.size = w.heap.size + 3 := by simp [boxA, boxT]
theorem boxA_at {w W : World} {NA : Option Addr} {nn nc : Nat} {EA : Option Addr} {ne ec : Nat} {tm : Int} {K : Option Addr} {n c : Nat} (hb : Below (boxA w NA nn nc EA ne ec tm K n c).heap.size (boxA w NA nn nc EA ne ec tm K n c) W) :
    W.cell? ⟨w.heap.size, 0, none⟩ = some (.slice NA nn nc) ∧ W.cell? ⟨w.heap.size, 1, none⟩ = some (.slice EA ne ec) ∧ W.cell? ⟨w.heap.size + 1, 0, none⟩ = some (.int .u64 tm) ∧ W.cell? ⟨w.heap.size + 1, 1, none⟩ = some (.slice K n c) ∧ Below w.heap.size w W := by
  rw [boxA_size] at hb
  have e : (boxT w NA nn nc EA ne ec).heap.size = w.heap.size + 1 := by simp [boxT]
  have hy : Below (w.heap.size + 2) ((boxT w NA nn nc EA ne ec).alloc (.cells #[.int .u64 tm, .slice K n c] 38)) W := ((Below.refl _ _).alloc (by simp [boxT]) _).trans (hb.mono (by omega))
  have hx : Below (w.heap.size + 1) (boxT w NA nn nc EA ne ec) W := ((Below.refl _ _).alloc (by omega) _).trans (hy.mono (by omega))
  obtain ⟨t0, t1⟩ := boxT_at hx
  have x0 : ((boxT w NA nn nc EA ne ec).alloc (.cells #[.int .u64 tm, .slice K n c] 38)).cell? ⟨w.heap.size + 1, 0, none⟩ = some (.int .u64 tm) := by rw [← e]; exact box_cell 0 _ rfl
  have x1 : ((boxT w NA nn nc EA ne ec).alloc (.cells #[.int .u64 tm, .slice K n c] 38)).cell? ⟨w.heap.size + 1, 1, none⟩ = some (.slice K n c) := by rw [← e]; exact box_cell 1 _ rfl
  exact ⟨t0, t1, (hy.cell (p := ⟨w.heap.size + 1, 0, none⟩) (by show w.heap.size + 1 < w.heap.size + 2; omega)).trans x0, (hy.cell (p := ⟨w.heap.size + 1, 1, none⟩) (by show w.heap.size + 1 < w.heap.size + 2; omega)).trans x1, boxT_below hx⟩
theorem boxA_two {w W : World} {NA : Option Addr} {nn nc : Nat} {EA : Option Addr} {ne ec : Nat} {tm : Int} {K : Option Addr} {n c : Nat} (hb : Below (boxA w NA nn nc EA ne ec tm K n c).heap.size (boxA w NA nn nc EA ne ec tm K n c) W) (u0 u1 : Value) :
    Below w.heap.size w ((W.setCell ⟨w.heap.size + 2, 0, none⟩ u0).setCell ⟨w.heap.size + 2, 1, none⟩ u1) :=
  ((boxA_at hb).2.2.2.2.setCell (p := ⟨w.heap.size + 2, 0, none⟩) (by show w.heap.size ≤ w.heap.size + 2; omega) u0).setCell (p := ⟨w.heap.size + 2, 1, none⟩) (by show w.heap.size ≤ w.heap.size + 2; omega) u1
/-- A lone event in a block, as events. -/
theorem box_evs {S : Nat → Prop} {w : World} {g : Nat} {T : TypeId} {fr : Nat × Nat} {x : Ev} {K : Option Addr} {c : Nat} (h : w.heap[g]? = some (.cells #[.int .u64 x.time, .slice K x.ids.length c] T fr)) (hk : EvOk w x K c) (hS : S g) (hKS : ∀ a, K = some a → 0 < x.ids.length → S a.block) :
    Evs S w (some ⟨g, 0, none⟩) [x] := fun _ => by
  refine ⟨g, 0, rfl, fun j e hj => ?_⟩
  have hj0 : j = 0 := by
    have := (List.getElem?_eq_some_iff.1 hj).1
    simpa using this
  subst hj0
  simp only [List.getElem?_cons_zero, Option.some.injEq] at hj
  subst hj
  exact ⟨by rw [cell_of_row w g _ _ T fr h]; rfl, hk.1, K, c, by rw [cell_of_row w g _ _ T fr h]; rfl, hk.2.1, hk.2.2.1, hk.2.2.2, hS, hKS⟩
theorem Evs.small {w : World} {A : Option Addr} {l : List Ev} (h : Evs Any w A l) : Evs (fun b => b < w.heap.size) w A l := h.mono fun _ hb _ => hb
theorem kids_small {w : World} {x : Ev} {K : Option Addr} {c : Nat} (h : EvOk w x K c) : ∀ a, K = some a → 0 < x.ids.length → a.block < w.heap.size := fun a e h0 => by
  obtain ⟨b, off, e', hc⟩ := h.2.1.2.2 h0
  rw [e] at e'
  injection e' with e'
  subst e'
  exact World.block_lt_of_cell? w _ (hc 0 h0)
/-- The boxes of a trace and an event. -/
abbrev boxE (w : World) (NA : Option Addr) (nn nc : Nat) (EA : Option Addr) (ne ec : Nat) (tm : Int) (K : Option Addr) (n c : Nat) : World :=
  (boxT w NA nn nc EA ne ec).alloc (.cells #[.int .u64 tm, .slice K n c] 38)
theorem boxE_at {w W : World} {NA : Option Addr} {nn nc : Nat} {EA : Option Addr} {ne ec : Nat} {tm : Int} {K : Option Addr} {n c : Nat} (hy : Below (w.heap.size + 2) (boxE w NA nn nc EA ne ec tm K n c) W) :
    W.cell? ⟨w.heap.size, 0, none⟩ = some (.slice NA nn nc) ∧ W.cell? ⟨w.heap.size, 1, none⟩ = some (.slice EA ne ec) ∧ W.cell? ⟨w.heap.size + 1, 0, none⟩ = some (.int .u64 tm) ∧ W.cell? ⟨w.heap.size + 1, 1, none⟩ = some (.slice K n c) ∧ Below (w.heap.size + 2) (boxE w NA nn nc EA ne ec tm K n c) W := by
  have e : (boxT w NA nn nc EA ne ec).heap.size = w.heap.size + 1 := by simp [boxT]
  have hx : Below (w.heap.size + 1) (boxT w NA nn nc EA ne ec) W := ((Below.refl _ _).alloc (by omega) _).trans (hy.mono (by omega))
  obtain ⟨t0, t1⟩ := boxT_at hx
  have x0 : (boxE w NA nn nc EA ne ec tm K n c).cell? ⟨w.heap.size + 1, 0, none⟩ = some (.int .u64 tm) := by rw [← e]; exact box_cell 0 _ rfl
  have x1 : (boxE w NA nn nc EA ne ec tm K n c).cell? ⟨w.heap.size + 1, 1, none⟩ = some (.slice K n c) := by rw [← e]; exact box_cell 1 _ rfl
  exact ⟨t0, t1, (hy.cell (p := ⟨w.heap.size + 1, 0, none⟩) (by show w.heap.size + 1 < w.heap.size + 2; omega)).trans x0, (hy.cell (p := ⟨w.heap.size + 1, 1, none⟩) (by show w.heap.size + 1 < w.heap.size + 2; omega)).trans x1, hy⟩
theorem boxA_E {w W : World} {NA : Option Addr} {nn nc : Nat} {EA : Option Addr} {ne ec : Nat} {tm : Int} {K : Option Addr} {n c : Nat} (hb : Below (boxA w NA nn nc EA ne ec tm K n c).heap.size (boxA w NA nn nc EA ne ec tm K n c) W) :
    Below (w.heap.size + 2) (boxE w NA nn nc EA ne ec tm K n c) W := by
  rw [boxA_size] at hb
  exact ((Below.refl _ _).alloc (by simp [boxE, boxT]) _).trans (hb.mono (by omega))
theorem EvOk.seen {w : World} {e : Ev} {K : Option Addr} {c : Nat} (h : EvOk w e K c) {W : World} (hb : Below w.heap.size w W) : EvOk W e K c := h.below hb
theorem blk_below {w w' : World} {g : Nat} {o : Obj} (hb : Below w.heap.size w w') (h : w.heap[g]? = some o) : w'.heap[g]? = some o := by
  have hlt : g < w.heap.size := by
    rcases Nat.lt_or_ge g w.heap.size with h' | h'
    · exact h'
    · rw [Array.getElem?_eq_none h'] at h; cases h
  exact (hb.block g hlt).trans h
theorem blk_grown {w w' : World} {g : Nat} {o : Obj} {row : Option Nat} (hg : w.grownBy w' row) (h : w.heap[g]? = some o) (hne : some g ≠ row) : w'.heap[g]? = some o := by
  have hlt : g < w.heap.size := by
    rcases Nat.lt_or_ge g w.heap.size with h' | h'
    · exact h'
    · rw [Array.getElem?_eq_none h'] at h; cases h
  exact (hg.block g hlt hne).trans h
/-- All but one block. -/
abbrev But (g : Nat) : Nat → Prop := fun b => b ≠ g
/-- What the appends need of the caller's events, whatever is made later. -/
theorem add_ready {w V : World} {NA : Option Addr} {nn nc : Nat} {EA : Option Addr} {ne ec : Nat} {tm : Int} {K' : Option Addr} {n c' : Nat} {l : List Ev} {x : Ev} {K : Option Addr} {c : Nat} (h : Evs (fun b => b < w.heap.size) w EA l) (hk : ∀ a, K = some a → 0 < x.ids.length → a.block < w.heap.size) (hx : EvOk w x K c)
    (hB : Below (boxA w NA nn nc EA ne ec tm K' n c').heap.size (boxA w NA nn nc EA ne ec tm K' n c') V) :
    (∀ (W : World) (r : Option Nat), Below V.heap.size V W → (∀ g, r = some g → V.heap.size ≤ g) → Evs (fun b => But (w.heap.size + 2) b ∧ some b ≠ r) W EA l) ∧
    (∀ (W : World) (r : Option Nat) (g : Nat) (T : TypeId) (fr : Nat × Nat), Below V.heap.size V W → (∀ q, r = some q → V.heap.size ≤ q ∧ q ≠ g) → V.heap.size ≤ g → W.heap[g]? = some (.cells #[.int .u64 x.time, .slice K x.ids.length c] T fr) → Evs (fun b => But (w.heap.size + 2) b ∧ some b ≠ r) W (some ⟨g, 0, none⟩) [x]) := by
  have hs : w.heap.size + 3 ≤ V.heap.size := by have := hB.size; rw [boxA_size] at this; exact this
  have hw := (boxA_at hB).2.2.2.2
  have key : ∀ (r : Option Nat), (∀ g, r = some g → V.heap.size ≤ g) → ∀ b, b < w.heap.size → But (w.heap.size + 2) b ∧ some b ≠ r := fun r hr b hb => ⟨by show b ≠ _; omega, fun e => by have := hr b e.symm; omega⟩
  refine ⟨fun W r hWb hr => ?_, fun W r g T fr hWb hr hg hblk => ?_⟩
  · exact ((h.mono fun b _ hb => key r hr b hb).below (hw.trans (hWb.mono hw.size)))
  · refine box_evs hblk (hx.below (hw.trans (hWb.mono hw.size))) ⟨by show g ≠ _; omega, fun e => ?_⟩ fun a e h0 => key r (fun q hq => (hr q hq).1) _ (hk a e h0)
    exact (hr g e.symm).2 rfl
theorem set2_cell (W : World) (g : Nat) (u0 u1 : Value) (p : Addr) (hp : p.block ≠ g) : ((W.setCell ⟨g, 0, none⟩ u0).setCell ⟨g, 1, none⟩ u1).cell? p = W.cell? p := by
  rw [World.cell?_of_block (w := W.setCell ⟨g, 0, none⟩ u0) (Below.heap_setCell _ ⟨g, 1, none⟩ u1 p.block hp), World.cell?_of_block (w := W) (Below.heap_setCell _ ⟨g, 0, none⟩ u0 p.block hp)]
/-- The trace with the new row, in the world behind the result's store. -/
theorem tr_added {w W : World} {NA : Option Addr} {nn nc : Nat} {EA : Option Addr} {ne ec : Nat} {t : Tr} {x : Ev} {base g : Nat} {v : Value} {l : List SEv} (h : TrOk Any w NA nn nc EA ne ec t) (hv : OwnEvs (But g) W base v l) (hl : l.map (·.1) = t.events ++ [x]) (hg : g < base) :
    ∃ A n c, v = .slice A n c ∧ ∀ u0 u1, Below w.heap.size w ((W.setCell ⟨g, 0, none⟩ u0).setCell ⟨g, 1, none⟩ u1) → TrOk Any ((W.setCell ⟨g, 0, none⟩ u0).setCell ⟨g, 1, none⟩ u1) NA nn nc A n c ⟨t.names, t.events ++ [x]⟩ := by
  obtain ⟨A, c, e, h1, h2, h3⟩ := hv.reads fun b hb _ => by show b ≠ g; omega
  refine ⟨A, l.length, c, e, fun u0 u1 hb => ⟨h.1, ?_, h.3.below hb, h.4, ?_, h.6, h2, h3⟩⟩
  · rw [← hl, List.length_map]
  · rw [hl] at h1
    exact (h1.keep (w' := (W.setCell ⟨g, 0, none⟩ u0).setCell ⟨g, 1, none⟩ u1) fun p u hp hc => by rw [set2_cell W g u0 u1 p hp]; exact hc).any

end Go.Proofs.YtimbbfneaaglbaaGreat.Trace
