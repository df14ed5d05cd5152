/-
  The contracts of the landed Head and Record of package scan. By an AI agent.
-/
import Derived.Test.YtimbbfneaaglbaaGreatGHeadsPlays13
import Derived.Test.YtimbbfneaaglbaaGreatGHeadsPlays20
namespace Go.Proofs.YtimbbfneaaglbaaGreat.Scan
open Go.RowKit Go.Proofs.YtimbbfneaaglbaaGreat.Ints Go.Proofs.YtimbbfneaaglbaaGreat.Mem Go.Proofs.YtimbbfneaaglbaaGreat.SumMath Go.Proofs.YtimbbfneaaglbaaGreat.SumWalks Go.Proofs.YtimbbfneaaglbaaGreat.Trace Go.Proofs.YtimbbfneaaglbaaGreat.Record Go.Proofs.YtimbbfneaaglbaaGreat.Log Go.Proofs.YtimbbfneaaglbaaGreat.Src

/-- The header of bytes that can be read up to a place. -/
def headF (b : List Int) (f : Nat) : List (List UInt8) × Nat × Nat := headD (b.take f) (if f < b.length then 10 else 5)
/-- What the landed Record leaves. -/
def GotRecS (S : Nat → Prop) (w : World) (g : Nat) (b sc : List Int) (f N : Nat) (p props : Int) (e : Ending) (w' : World) : Prop :=
  ∃ K c N', e = .returned (.tuple #[.agg #[.int .u64 (scanV b f p props).time, .slice K (scanV b f p props).ids.length c], .int .i64 (scanN b f p props : Nat), .int .i64 (scanE b f p props : Nat)]) ∧
    EvOk w' (scanV b f p props) K c ∧ LSrc S w' g b sc f N' ∧ (N' ≤ N + b.length ∧ N' ≤ N + 78) ∧ w.grownBy w' (some g) ∧ ∀ a, K = some a → w.heap.size ≤ a.block
/-- What the landed Head leaves. -/
def GotHeadS (S : Nat → Prop) (w : World) (g : Nat) (b sc : List Int) (f N : Nat) (e : Ending) (w' : World) : Prop :=
  ∃ A c N', e = .returned (.tuple #[.slice A (headF b f).1.length c, .int .i64 ((headF b f).2.1 : Nat), .int .i64 ((headF b f).2.2 : Nat)]) ∧
    w'.ownsRow w.heap.size 9 1 (.slice A (headF b f).1.length c) (headF b f).1.length ((headF b f).1.map strS) ∧ LSrc S w' g b sc f N' ∧ N' ≤ N + b.length ∧ w.grownBy w' (some g)
def RecC (M : Nat) : Prop := ∀ (S : Nat → Prop) (g : Nat) (b sc : List Int) (f N : Nat) (p props : Int) (w : World), LSrc S w g b sc f N → N ≤ 4611686018427387904 → small64 p → b.length ≤ M → Calls Tryz.prog 96 #[.pointer (some ⟨g, 0, none⟩), .int .i64 p, .int .i64 props] w (GotRecS S w g b sc f N p props)
def HeadC (M : Nat) : Prop := ∀ (S : Nat → Prop) (g : Nat) (b sc : List Int) (f N : Nat) (w : World), LSrc S w g b sc f N → N ≤ 4611686018427387904 → b.length ≤ M → Calls Tryz.prog 32 #[.pointer (some ⟨g, 0, none⟩)] w (GotHeadS S w g b sc f N)
end Go.Proofs.YtimbbfneaaglbaaGreat.Scan
