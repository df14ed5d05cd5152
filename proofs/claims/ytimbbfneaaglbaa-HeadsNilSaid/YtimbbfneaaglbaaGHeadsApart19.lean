/-
  What a landed pool of heads is to keep (stage 13): the contracts of its functions, over a predicate that is not told here; a landed pool and the reference's beside one another. By an AI agent.
  The walks of the reference's Holds, Cut, SameEvent, SameEvents, SameTrace; slices.Index, Contains and Equal over names and ids. By an AI agent.
  The law's did (stage 13): one call on both pools. By an AI agent.
-/
import Derived.Test.YtimbbfneaaglbaaGHeadsApart15
import Derived.Test.YtimbbfneaaglbaaGHeadsApart18
import Derived.Deep.RegionHeld3
import Derived.Test.YtimbbfneaaglbaaGHeadsApart13
namespace Go.Proofs.Ytimbbfneaaglbaa.Heads
open Go.RowKit Go.Proofs.Ytimbbfneaaglbaa.Ints Go.Proofs.Ytimbbfneaaglbaa.Mem Go.Proofs.Ytimbbfneaaglbaa.Trace Go.Proofs.Ytimbbfneaaglbaa.Record Go.Proofs.Ytimbbfneaaglbaa.Log Go.Proofs.Ytimbbfneaaglbaa.Src

/-- A landed pool in memory: the log's bytes, how far they can be read; its world, its block, all blocks of its own, how many Reads told bytes, what it is. -/
abbrev LPool := List Int → Nat → World → Nat → (Nat → Prop) → Nat → PS → Prop
def TurnL (L : LPool) (b : List Int) (f : Nat) (w w' : World) (g : Nat) (D : Nat → Prop) (N : Nat) (s : PS) : Prop :=
  ∃ D' N', L b f w' g D' N' s ∧ (∀ q, D' q → D q ∨ w.heap.size ≤ q) ∧ Left D w w' ∧ N' ≤ N + 1099511627776
/-- What the landed Next leaves. -/
def GotNextL (L : LPool) (b : List Int) (f : Nat) (w : World) (g : Nat) (D : Nat → Prop) (N : Nat) (x : Ev) (er : Nat) (s : PS) (e : Ending) (w' : World) : Prop :=
  ∃ K c D' N', e = .returned (.tuple #[.agg #[.int .u64 x.time, .slice K x.ids.length c], .int .i64 (er : Nat)]) ∧ EvOk w' x K c ∧ (∀ a, K = some a → w.heap.size ≤ a.block ∧ ¬ D' a.block) ∧
    L b f w' g D' N' s ∧ (∀ q, D' q → D q ∨ w.heap.size ≤ q) ∧ Left D w w' ∧ N' ≤ N + 1099511627776
structure PoolC (L : LPool) : Prop where
  keep : ∀ b f w w' g D N s, L b f w g D N s → (∀ q, D q → w'.heap[q]? = w.heap[q]?) → w.heap.size ≤ w'.heap.size → L b f w' g D N s
  lt : ∀ b f w g D N s, L b f w g D N s → D g ∧ ∀ q, D q → q < w.heap.size
  new : ∀ (A : Option Addr) (n c : Nat) (zs : List Int) (B : Option Addr) (m d : Nat) (sc : List Int) (fault size : Int) (w : World), n ≤ c → c ≤ maxLen → Rd .u8 w A n zs → Rd .i64 w B m sc → n ≤ 58000000 → m * 8 ≤ 140737488351232 → small64 fault → small64 size →
    Calls Try.prog 9 #[.slice A n c, .slice B m d, .int .i64 fault, .int .i64 size] w fun e w' => Below w.heap.size w w' ∧
      ((newE zs (faultP n fault) size ≠ 0 ∧ e = .returned (.tuple #[.pointer none, .int .i64 (newE zs (faultP n fault) size : Nat)])) ∨
       (newE zs (faultP n fault) size = 0 ∧ ∃ g D N, e = .returned (.tuple #[.pointer (some ⟨g, 0, none⟩), .int .i64 0]) ∧ L zs (faultP n fault) w' g D N (startP zs (faultP n fault) size) ∧ (∀ q, D q → w.heap.size ≤ q) ∧ N ≤ 1099511627776))
  open_ : ∀ b f w g D N s, L b f w g D N s → OkP s → s.hs.length ≤ 100000 → N ≤ 2305843009213693952 →
    Calls Try.prog 11 #[.pointer (some ⟨g, 0, none⟩)] w fun e w' => e = .returned (.tuple #[.int .i64 ((addP s 0).1 : Nat), .int .i64 ((addP s 0).2.1 : Nat)]) ∧ TurnL L b f w w' g D N (addP s 0).2.2
  clone : ∀ b f w g D N s id, L b f w g D N s → OkP s → s.hs.length ≤ 100000 → N ≤ 2305843009213693952 → small64 id →
    Calls Try.prog 13 #[.pointer (some ⟨g, 0, none⟩), .int .i64 id] w fun e w' => e = .returned (.tuple #[.int .i64 ((cloneP s id).1 : Nat), .int .i64 ((cloneP s id).2.1 : Nat)]) ∧ TurnL L b f w w' g D N (cloneP s id).2.2
  next : ∀ b f w g D N s id, L b f w g D N s → OkP s → s.hs.length ≤ 100000 → N ≤ 2305843009213693952 → small64 id →
    Calls Try.prog 15 #[.pointer (some ⟨g, 0, none⟩), .int .i64 id] w (GotNextL L b f w g D N (nextP s id).1 (nextP s id).2.1 (nextP s id).2.2)
  seek : ∀ b f w g D N s id k, L b f w g D N s → OkP s → s.hs.length ≤ 100000 → N ≤ 2305843009213693952 → small64 id → small64 k →
    Calls Try.prog 12 #[.pointer (some ⟨g, 0, none⟩), .int .i64 id, .int .i64 k] w fun e w' => e = .returned (.int .i64 ((seekP s id k).1 : Nat)) ∧ TurnL L b f w w' g D N (seekP s id k).2
  close : ∀ b f w g D N s id, L b f w g D N s → OkP s → s.hs.length ≤ 100000 → N ≤ 2305843009213693952 → small64 id →
    Calls Try.prog 16 #[.pointer (some ⟨g, 0, none⟩), .int .i64 id] w fun e w' => e = .returned (.bool (closeP s id).1) ∧ TurnL L b f w w' g D N (closeP s id).2
  index : ∀ b f w g D N s id, L b f w g D N s → OkP s → s.hs.length ≤ 100000 → N ≤ 2305843009213693952 → small64 id →
    Calls Try.prog 17 #[.pointer (some ⟨g, 0, none⟩), .int .i64 id] w fun e w' => e = .returned (.tuple #[.int .i64 (((headP s.hs id).getD 0 : Nat) : Int), .bool (headP s.hs id).isSome]) ∧ TurnL L b f w w' g D N s
  count : ∀ b f w g D N s, L b f w g D N s → OkP s → s.hs.length ≤ 100000 → N ≤ 2305843009213693952 →
    Calls Try.prog 14 #[.pointer (some ⟨g, 0, none⟩)] w fun e w' => e = .returned (.int .i64 (countP s.hs : Nat)) ∧ TurnL L b f w w' g D N s
  cells : ∀ b f w g D N s, L b f w g D N s → OkP s → s.hs.length ≤ 100000 → N ≤ 2305843009213693952 →
    Calls Try.prog 19 #[.pointer (some ⟨g, 0, none⟩)] w fun e w' => e = .returned (.int .i64 (cellsP s.t s.hs : Nat)) ∧ TurnL L b f w w' g D N s
  peak : ∀ b f w g D N s, L b f w g D N s → OkP s → s.hs.length ≤ 100000 → N ≤ 2305843009213693952 →
    Calls Try.prog 20 #[.pointer (some ⟨g, 0, none⟩)] w fun e w' => e = .returned (.int .i64 (s.peak : Nat)) ∧ TurnL L b f w w' g D N s
  names : ∀ b f w g D N s, L b f w g D N s → OkP s → s.hs.length ≤ 100000 → N ≤ 2305843009213693952 →
    Calls Try.prog 21 #[.pointer (some ⟨g, 0, none⟩)] w fun e w' => ∃ A c D' N', e = .returned (.slice A s.t.names.length c) ∧ Strs w' A s.t.names ∧ (∀ a, A = some a → w.heap.size ≤ a.block ∧ ¬ D' a.block) ∧ s.t.names.length ≤ c ∧ c ≤ maxLen ∧
      L b f w' g D' N' s ∧ (∀ q, D' q → D q ∨ w.heap.size ≤ q) ∧ Left D w w' ∧ N' ≤ N + 1099511627776

/-- Blocks of X are as they were. -/
def Kept (X : Nat → Prop) (w w' : World) : Prop := ∀ q, X q → w'.heap[q]? = w.heap[q]?
/-- A landed pool and the reference's, beside one another, and beside blocks of X. -/
structure BothP (L : LPool) (b : List Int) (f : Nat) (X : Nat → Prop) (w : World) (gp gr base B : Nat) (sl sr : PS) : Prop where
  ex : ∃ Dp Dr N, L b f w gp Dp N sl ∧ RP w gr Dr sr ∧ (∀ q, Dp q → ¬ Dr q) ∧ (∀ q, Dp q → base ≤ q) ∧ (∀ q, Dr q → base ≤ q) ∧ N ≤ B ∧ (∀ q, X q → ¬ Dp q ∧ ¬ Dr q)
  lt : ∀ q, X q → q < w.heap.size
  base : base ≤ w.heap.size
theorem Kept.of_left {X D : Nat → Prop} {w w' : World} (h : Left D w w') (hx : ∀ q, X q → ¬ D q ∧ q < w.heap.size) : Kept X w w' := fun q hq => h.block q (hx q hq).2 (hx q hq).1
theorem BothP.below {L : LPool} (C : PoolC L) {b : List Int} {f : Nat} {X : Nat → Prop} {w w' : World} {gp gr base B : Nat} {sl sr : PS} (h : BothP L b f X w gp gr base B sl sr) (hb : Below w.heap.size w w') : BothP L b f X w' gp gr base B sl sr := by
  obtain ⟨Dp, Dr, N, h1, h2, h3, h4, h5, h6, h7⟩ := h.ex
  have hlt := (C.lt _ _ _ _ _ _ _ h1).2
  exact ⟨⟨Dp, Dr, N, C.keep _ _ _ _ _ _ _ _ h1 (fun q hq => hb.block q (hlt q hq)) hb.size, h2.below hb, h3, h4, h5, h6, h7⟩, fun q hq => Nat.lt_of_lt_of_le (h.lt q hq) hb.size, Nat.le_trans h.base hb.size⟩
/-- A block that is laid is one of X. -/
theorem BothP.box {L : LPool} (C : PoolC L) {b : List Int} {f : Nat} {X : Nat → Prop} {w : World} {gp gr base B : Nat} {sl sr : PS} (h : BothP L b f X w gp gr base B sl sr) (o : Obj) : BothP L b f (fun q => X q ∨ q = w.heap.size) (w.alloc o) gp gr base B sl sr := by
  have hb := h.below C ((Below.refl _ w).alloc (Nat.le_refl _) o)
  obtain ⟨Dp, Dr, N, h1, h2, h3, h4, h5, h6, h7⟩ := hb.ex
  obtain ⟨Dp0, Dr0, N0, g1, g2, g3, g4, g5, g6, g7⟩ := h.ex
  have hsz : (w.alloc o).heap.size = w.heap.size + 1 := by simp
  have hlt := (C.lt _ _ _ _ _ _ _ g1).2
  refine ⟨⟨Dp0, Dr0, N0, C.keep _ _ _ _ _ _ _ _ g1 (fun q hq => heap_alloc_old w o (hlt q hq)) (by omega), g2.below ((Below.refl _ w).alloc (Nat.le_refl _) o), g3, g4, g5, g6, fun q hq => ?_⟩, fun q hq => ?_, hb.base⟩
  · rcases hq with hq | hq
    · exact g7 q hq
    · subst hq
      exact ⟨fun e => absurd (hlt _ e) (Nat.lt_irrefl _), fun e => absurd (g2.lt _ e) (Nat.lt_irrefl _)⟩
  · rcases hq with hq | hq
    · have := h.lt q hq; omega
    · omega
theorem BothP.less {L : LPool} {b : List Int} {f : Nat} {X Y : Nat → Prop} {w : World} {gp gr base B B' : Nat} {sl sr : PS} (h : BothP L b f X w gp gr base B sl sr) (hY : ∀ q, Y q → X q) (hB : B ≤ B') : BothP L b f Y w gp gr base B' sl sr := by
  obtain ⟨Dp, Dr, N, h1, h2, h3, h4, h5, h6, h7⟩ := h.ex
  exact ⟨⟨Dp, Dr, N, h1, h2, h3, h4, h5, Nat.le_trans h6 hB, fun q hq => h7 q (hY q hq)⟩, fun q hq => h.lt q (hY q hq), h.base⟩
/-- What both leave: the law goes on with it. -/
def Step (L : LPool) (b : List Int) (f : Nat) (X : Nat → Prop) (w w' : World) (gp gr base B : Nat) (sl sr : PS) : Prop := BothP L b f X w' gp gr base B sl sr ∧ Kept X w w' ∧ Below base w w'
/-- A call of a landed function. -/
theorem BothP.land {L : LPool} (_C : PoolC L) {b : List Int} {f : Nat} {X : Nat → Prop} {w : World} {gp gr base B : Nat} {sl sl' sr : PS} (h : BothP L b f X w gp gr base B sl sr) {fn : FuncId} {args : Array Value} {R : Ending → Prop}
    (hc : ∀ D N, L b f w gp D N sl → N ≤ B → Calls Try.prog fn args w fun e w' => R e ∧ TurnL L b f w w' gp D N sl') :
    Calls Try.prog fn args w fun e w' => R e ∧ Step L b f X w w' gp gr base (B + 1099511627776) sl' sr := by
  obtain ⟨Dp, Dr, N, h1, h2, h3, h4, h5, h6, h7⟩ := h.ex
  refine (hc Dp N h1 h6).mono ?_
  rintro e w' ⟨hr, D', N', g1, g2, g3, g4⟩
  refine ⟨hr, ⟨⟨D', Dr, N', g1, h2.left g3 (fun q hq hp => h3 q hp hq), fun q hq hr => ?_, fun q hq => ?_, h5, by omega, fun q hq => ⟨fun hd => ?_, (h7 q hq).2⟩⟩, fun q hq => Nat.lt_of_lt_of_le (h.lt q hq) g3.size, Nat.le_trans h.base g3.size⟩, Kept.of_left g3 (fun q hq => ⟨(h7 q hq).1, h.lt q hq⟩), g3.below h4 h.base⟩
  · rcases g2 q hq with e2 | e2
    · exact h3 q e2 hr
    · have := h2.lt q hr; omega
  · rcases g2 q hq with e2 | e2
    · exact h4 q e2
    · exact Nat.le_trans h.base e2
  · rcases g2 q hd with e2 | e2
    · exact (h7 q hq).1 e2
    · have := h.lt q hq; omega
/-- A call of the reference's. -/
theorem BothP.ref {L : LPool} (C : PoolC L) {b : List Int} {f : Nat} {X : Nat → Prop} {w : World} {gp gr base B : Nat} {sl sr sr' : PS} (h : BothP L b f X w gp gr base B sl sr) {fn : FuncId} {args : Array Value} {R : Ending → World → Prop}
    (hc : ∀ D, RP w gr D sr → Calls Try.prog fn args w fun e w' => R e w' ∧ Turn w w' gr D sr') :
    Calls Try.prog fn args w fun e w' => R e w' ∧ Step L b f X w w' gp gr base B sl sr' := by
  obtain ⟨Dp, Dr, N, h1, h2, h3, h4, h5, h6, h7⟩ := h.ex
  have hlt := (C.lt _ _ _ _ _ _ _ h1).2
  refine (hc Dr h2).mono ?_
  rintro e w' ⟨hr, D', g1, g2, g3⟩
  refine ⟨hr, ⟨⟨Dp, D', N, C.keep _ _ _ _ _ _ _ _ h1 (fun q hq => g3.block q (hlt q hq) (h3 q hq)) g3.size, g1, fun q hq hd => ?_, h4, fun q hq => ?_, h6, fun q hq => ⟨(h7 q hq).1, fun hd => ?_⟩⟩, fun q hq => Nat.lt_of_lt_of_le (h.lt q hq) g3.size, Nat.le_trans h.base g3.size⟩, Kept.of_left g3 (fun q hq => ⟨(h7 q hq).2, h.lt q hq⟩), g3.below h5 h.base⟩
  · rcases g2 q hd with e2 | e2
    · exact h3 q hq e2
    · have := hlt q hq; omega
  · rcases g2 q hq with e2 | e2
    · exact h5 q e2
    · exact Nat.le_trans h.base e2
  · rcases g2 q hd with e2 | e2
    · exact (h7 q hq).2 e2
    · have := h.lt q hq; omega
/-- A call of the landed Next: its event's ids are of X from then on. -/
theorem BothP.nextL {L : LPool} (C : PoolC L) {b : List Int} {f : Nat} {X : Nat → Prop} {w : World} {gp gr base B : Nat} {sl sr : PS} (h : BothP L b f X w gp gr base B sl sr) (hok : OkP sl) (hl : sl.hs.length ≤ 100000) (hB : B ≤ 2305843009213693952) (id : Int) (hid : small64 id) :
    Calls Try.prog 15 #[.pointer (some ⟨gp, 0, none⟩), .int .i64 id] w fun e w' => ∃ K c, e = .returned (.tuple #[.agg #[.int .u64 (nextP sl id).1.time, .slice K (nextP sl id).1.ids.length c], .int .i64 ((nextP sl id).2.1 : Nat)]) ∧ EvOk w' (nextP sl id).1 K c ∧
      BothP L b f (fun q => X q ∨ (q < w'.heap.size ∧ ∃ a, K = some a ∧ a.block = q)) w' gp gr base (B + 1099511627776) (nextP sl id).2.2 sr ∧ Kept X w w' ∧ Below base w w' := by
  obtain ⟨Dp, Dr, N, h1, h2, h3, h4, h5, h6, h7⟩ := h.ex
  refine (C.next b f w gp Dp N sl id h1 hok hl (by omega) hid).mono ?_
  rintro e w' ⟨K, c, D', N', he, hev, hK, g1, g2, g3, g4⟩
  refine ⟨K, c, he, hev, ⟨⟨D', Dr, N', g1, h2.left g3 (fun q hq hp => h3 q hp hq), fun q hq hr => ?_, fun q hq => ?_, h5, by omega, fun q hq => ?_⟩, fun q hq => ?_, Nat.le_trans h.base g3.size⟩, Kept.of_left g3 (fun q hq => ⟨(h7 q hq).1, h.lt q hq⟩), g3.below h4 h.base⟩
  · rcases g2 q hq with e2 | e2
    · exact h3 q e2 hr
    · have := h2.lt q hr; omega
  · rcases g2 q hq with e2 | e2
    · exact h4 q e2
    · exact Nat.le_trans h.base e2
  · rcases hq with hq | ⟨-, a, ha, rfl⟩
    · refine ⟨fun hd => ?_, (h7 q hq).2⟩
      rcases g2 q hd with e2 | e2
      · exact (h7 q hq).1 e2
      · have := h.lt q hq; omega
    · exact ⟨(hK a ha).2, fun hr => by have := h2.lt _ hr; have := (hK a ha).1; omega⟩
  · rcases hq with hq | hq
    · exact Nat.lt_of_lt_of_le (h.lt q hq) g3.size
    · exact hq.1
theorem Step.trans {L : LPool} {b : List Int} {f : Nat} {X Y : Nat → Prop} {w w1 w2 : World} {gp gr base B B2 : Nat} {sl sr sl2 sr2 : PS} (h : Step L b f X w w1 gp gr base B sl sr) (h2 : Step L b f Y w1 w2 gp gr base B2 sl2 sr2) (hY : ∀ q, X q → Y q) : Step L b f X w w2 gp gr base B2 sl2 sr2 :=
  ⟨h2.1.less hY (Nat.le_refl _), fun q hq => (h2.2.1 q (hY q hq)).trans (h.2.1 q hq), h.2.2.trans h2.2.2⟩
theorem Step.from_below {L : LPool} {b : List Int} {f : Nat} {X Y : Nat → Prop} {w w1 w2 : World} {gp gr base B : Nat} {sl sr : PS} (hb : Below w.heap.size w w1) (hX : ∀ q, X q → q < w.heap.size) (hs : base ≤ w.heap.size) (h : Step L b f Y w1 w2 gp gr base B sl sr) (hY : ∀ q, X q → Y q) : Step L b f X w w2 gp gr base B sl sr :=
  ⟨h.1.less hY (Nat.le_refl _), fun q hq => (h.2.1 q (hY q hq)).trans (hb.block q (hX q hq)), (hb.mono hs).trans h.2.2⟩
theorem Step.below {L : LPool} (C : PoolC L) {b : List Int} {f : Nat} {X : Nat → Prop} {w w1 w2 : World} {gp gr base B : Nat} {sl sr : PS} (h : Step L b f X w w1 gp gr base B sl sr) (hb : Below w1.heap.size w1 w2) : Step L b f X w w2 gp gr base B sl sr :=
  ⟨h.1.below C hb, fun q hq => (hb.block q (h.1.lt q hq)).trans (h.2.1 q hq), h.2.2.trans (hb.mono h.1.base)⟩
end Go.Proofs.Ytimbbfneaaglbaa.Heads

namespace Go.Proofs.Ytimbbfneaaglbaa.Trace
open Go.RowKit Go.Proofs.Ytimbbfneaaglbaa.Ints Go.Proofs.Ytimbbfneaaglbaa.Mem

def idxL (l : List (List UInt8)) (x : List UInt8) : Int := if x ∈ l then ((l.idxOf x : Nat) : Int) else -1
theorem idx_from (l : List (List UInt8)) (x : ByteArray) (i : Nat) : Lib.idxFromS (l.map fun s => (⟨s.toArray⟩ : ByteArray)) x i = if x.data.toList ∈ l then ((i + l.idxOf x.data.toList : Nat) : Int) else -1 := by
  induction l generalizing i with
  | nil => rfl
  | cons z l ih =>
    have he : ((⟨z.toArray⟩ : ByteArray) = x) ↔ z = x.data.toList := by
      constructor
      · rintro rfl; rfl
      · rintro rfl; cases x; rfl
    rw [List.map_cons, Lib.idxFromS]
    by_cases h : z = x.data.toList
    · rw [if_pos (he.2 h), if_pos (by rw [h]; exact List.mem_cons_self), h, List.idxOf_cons_self]
      rfl
    · have hi : List.idxOf x.data.toList (z :: l) = List.idxOf x.data.toList l + 1 := by rw [List.idxOf_cons, cond_eq_ite, if_neg (by simpa using h)]
      rw [if_neg (fun e => h (he.1 e)), ih, hi]
      by_cases hm : x.data.toList ∈ l
      · rw [if_pos hm, if_pos (List.mem_cons_of_mem _ hm)]
        congr 1
        omega
      · rw [if_neg hm, if_neg (by rintro (_ | ⟨_, h2⟩); exact h rfl; exact hm h2)]
/-- slices.Index, at a list of names. -/
theorem indexStr (A : Option Addr) (n c : Nat) (l : List (List UInt8)) (x : ByteArray) (w : World) (hl : l.length = n) (hn : n ≤ maxLen) (h : Strs w A l) :
    Calls Try.prog 73 #[.slice A n c, .string x] w fun e w' => e = .returned (.int .i64 (idxL l x.data.toList)) ∧ w' = w := by
  subst hl
  have e0 : Lib.idxOfS (l.map fun s => (⟨s.toArray⟩ : ByteArray)) x = idxL l x.data.toList := by
    unfold Lib.idxOfS idxL
    rw [idx_from]
    simp
  by_cases h0 : l.length = 0
  · have : l = [] := List.eq_nil_of_length_eq_zero h0
    subst this
    exact Try.slices_Index_string_empty A c x w
  · obtain ⟨b, off, rfl, hc⟩ := h (by omega)
    refine (Try.slices_Index_string b off l.length c (l.map fun s => (⟨s.toArray⟩ : ByteArray)) x w (by rw [List.length_map]; exact Nat.le_refl _) hn (fun j hj => ?_)).mono fun e w' ⟨he, hw⟩ => ⟨?_, hw⟩
    · rw [List.length_map] at hj
      rw [hc j _ (List.getElem?_eq_getElem hj)]
      simp [List.getD, hj, strS]
    · rw [he, List.take_of_length_le (by rw [List.length_map]; exact Nat.le_refl _), e0]
/-- The cells of a trace's box, behind a call. -/
theorem boxT_call {w W : World} {NA EA : Option Addr} {nn nc ne ec : Nat} (hb : Below (boxT w NA nn nc EA ne ec).heap.size (boxT w NA nn nc EA ne ec) W) : Below (w.heap.size + 1) (boxT w NA nn nc EA ne ec) W := by
  have e : (boxT w NA nn nc EA ne ec).heap.size = w.heap.size + 1 := by simp [boxT]
  rwa [e] at hb

end Go.Proofs.Ytimbbfneaaglbaa.Trace

namespace Go.Proofs.Ytimbbfneaaglbaa.Heads
open Go.RowKit Go.Proofs.Ytimbbfneaaglbaa.Ints Go.Proofs.Ytimbbfneaaglbaa.Mem Go.Proofs.Ytimbbfneaaglbaa.Trace Go.Proofs.Ytimbbfneaaglbaa.Record Go.Proofs.Ytimbbfneaaglbaa.Log Go.Proofs.Ytimbbfneaaglbaa.Src

/-- One call. -/
def didP (s : PS) (r : Nat) (id k : Int) : PS := match r with
  | 0 => (addP s 0).2.2
  | 1 => (cloneP s id).2.2
  | 2 => (nextP s id).2.2
  | 3 => (seekP s id k).2
  | _ => (closeP s id).2
theorem OkP.did {s : PS} (h : OkP s) (r : Nat) (id k : Int) : OkP (didP s r id k) := by
  unfold didP
  split
  · exact h.add (Nat.zero_le _)
  · exact h.clone id
  · exact h.next id
  · exact h.seek id k
  · exact h.close id
theorem evok_kept {w w' : World} {x : Ev} {K : Option Addr} {c : Nat} (h : EvOk w x K c) (hk : ∀ a, K = some a → 0 < x.ids.length → w'.heap[a.block]? = w.heap[a.block]?) : EvOk w' x K c := by
  rcases Nat.eq_zero_or_pos x.ids.length with h0 | h0
  · have e : x.ids = [] := List.eq_nil_of_length_eq_zero h0
    exact ⟨h.1, by rw [h0, e]; exact Rd.nil _ _ _, h.2.2⟩
  · refine ⟨h.1, h.2.1.keep (fun p u hp hu => ?_), h.2.2⟩
    obtain ⟨a, ha, hb⟩ := Option.map_eq_some_iff.1 hp
    have he : w'.heap[p.block]? = w.heap[p.block]? := by rw [← hb]; exact hk a ha h0
    exact (World.cell?_of_block he).trans hu

end Go.Proofs.Ytimbbfneaaglbaa.Heads
