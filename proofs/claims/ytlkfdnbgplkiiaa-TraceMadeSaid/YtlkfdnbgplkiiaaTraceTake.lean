/-
  Beginnings of a trace that may be; a trace beside a box that changes. By an AI agent.
-/
import Derived.Test.YtlkfdnbgplkiiaaTraceMake
namespace Go.Proofs.Ytlkfdnbgplkiiaa.Trace
open Go.RowKit Go.Proofs.Ytlkfdnbgplkiiaa.Ints Go.Proofs.Ytlkfdnbgplkiiaa.Mem

def upT (t : Tr) (k : Nat) : Tr := ⟨t.names, t.events.take k⟩
theorem up_may {t : Tr} (h : mayT t = true) (k : Nat) : mayT (upT t k) = true := by
  rw [mayT_iff] at h ⊢
  exact ⟨h.1, evs_take h.2 k⟩
theorem up_cut {t : Tr} (h : mayT t = true) (i : Int) : cutT t i = upT t i.toNat := by unfold cutT; rw [if_pos h]; rfl
theorem up_all (t : Tr) {k : Nat} (h : t.events.length ≤ k) : upT t k = t := by unfold upT; rw [List.take_of_length_le h]
theorem up_front {t : Tr} (h : mayT t = true) {k m : Nat} (hk : k ≤ t.events.length) : frontT (upT t k) (upT t m) = decide (k ≤ m) := by
  unfold frontT
  rw [up_may h, up_may h]
  have e1 : (upT t k).names = (upT t m).names := rfl
  have e2 : (upT t k).events = t.events.take k := rfl
  have e3 : (upT t m).events = t.events.take m := rfl
  rw [decide_eq_true e1, e2, e3, List.length_take, Nat.min_eq_left hk, List.take_take, Bool.true_and, Bool.true_and, Bool.true_and]
  apply decide_eq_decide.2
  constructor
  · intro e
    have := congrArg List.length e
    rw [List.length_take, List.length_take] at this
    omega
  · intro e
    rw [Nat.min_eq_left e]
theorem up_front_all {t : Tr} (h : mayT t = true) {k : Nat} (hk : k ≤ t.events.length) : frontT (upT t k) t = true := by
  have := up_front h (k := k) (m := t.events.length) hk
  rw [up_all t (Nat.le_refl _), decide_eq_true hk] at this
  exact this
theorem up_add {t : Tr} (h : mayT t = true) {k : Nat} (hk : k < t.events.length) : addE (upT t k) (t.events.getD k noEv) = 0 ∧ addT (upT t k) (t.events.getD k noEv) = upT t (k + 1) := add_next h hk

/-- A block of two slices, and nothing else. -/
def BoxS (w : World) (g : Nat) (A : Option Addr) (n c : Nat) (B : Option Addr) (m d : Nat) : Prop :=
  Blk w g [.slice A n c, .slice B m d] ∧ ∀ k, 2 ≤ k → w.cell? ⟨g, k, none⟩ = none
theorem BoxS.new (w : World) (A : Option Addr) (n c : Nat) (B : Option Addr) (m d : Nat) (T : TypeId) : BoxS (w.alloc (.cells #[.slice A n c, .slice B m d] T)) w.heap.size A n c B m d := by
  refine ⟨Blk.new w _ T _ rfl, fun k hk => ?_⟩
  rw [cell_of_row _ w.heap.size k _ T (0, 0) (heap_alloc_new w _)]
  simp
  omega
theorem BoxS.below {B0 : Nat} {w w' : World} {g : Nat} {A B : Option Addr} {n c m d : Nat} (h : BoxS w g A n c B m d) (hb : Below B0 w w') (hg : g < B0) : BoxS w' g A n c B m d :=
  ⟨h.1.below hb hg, fun k hk => (hb.cell (p := ⟨g, k, none⟩) hg).trans (h.2 k hk)⟩
theorem BoxS.later {w w' : World} {g : Nat} {A B : Option Addr} {n c m d : Nat} (h : BoxS w g A n c B m d) (hb : Below w.heap.size w w') : BoxS w' g A n c B m d := h.below hb h.1.1
theorem BoxS.set {w : World} {g : Nat} {A B A' B' : Option Addr} {n c m d n' c' m' d' : Nat} (h : BoxS w g A n c B m d) : BoxS ((w.setCell ⟨g, 0, none⟩ (.slice A' n' c')).setCell ⟨g, 1, none⟩ (.slice B' m' d')) g A' n' c' B' m' d' := by
  refine ⟨(h.1.set 0 _ (by simp)).set 1 _ (by simp), fun k hk => ?_⟩
  rw [World.cell?_setCell_other _ _ _ _ (fun e => by injection e with _ e; omega), World.cell?_setCell_other _ _ _ _ (fun e => by injection e with _ e; omega)]
  exact h.2 k hk
theorem BoxS.not {w : World} {g b o : Nat} {A B : Option Addr} {n c m d : Nat} {u : Value} (h : BoxS w g A n c B m d) (hc : w.cell? ⟨b, o, none⟩ = some u) (hu : ∀ X p q, u ≠ .slice X p q) : b ≠ g := by
  rintro rfl
  match o, hc with
  | 0, hc => rw [h.1.cell 0 rfl] at hc; exact hu _ _ _ (Option.some.inj hc).symm
  | 1, hc => rw [h.1.cell 1 rfl] at hc; exact hu _ _ _ (Option.some.inj hc).symm
  | o + 2, hc => rw [h.2 (o + 2) (by omega)] at hc; cases hc
/-- A trace beside a box that changes. -/
theorem TrOk.other {w w' : World} {g : Nat} {A B : Option Addr} {n c m d : Nat} {NA EA : Option Addr} {nn nc ne ec : Nat} {t : Tr} (h : TrOk Any w NA nn nc EA ne ec t) (hb : BoxS w g A n c B m d) (hk : ∀ p : Addr, p.block ≠ g → w'.cell? p = w.cell? p) : TrOk Any w' NA nn nc EA ne ec t := by
  refine ⟨h.1, h.2, fun h0 => ?_, h.4, fun h0 => ?_, h.6, h.7⟩
  · obtain ⟨b, off, e, hc⟩ := h.names h0
    exact ⟨b, off, e, fun j s hs => (hk ⟨b, off + j, Option.none⟩ (hb.not (hc j s hs) (fun _ _ _ e => by cases e))).trans (hc j s hs)⟩
  · obtain ⟨b, off, e, hc⟩ := h.evs h0
    refine ⟨b, off, e, fun j x hx => ?_⟩
    obtain ⟨h1, h5, K, cK, h9, h10, h11, h12, h13, h14⟩ := hc j x hx
    have hbg : b ≠ g := hb.not h1 (fun _ _ _ e => by cases e)
    refine ⟨(hk _ hbg).trans h1, h5, K, cK, (hk _ hbg).trans h9, ⟨h10.1, h10.2.1, fun h0 => ?_⟩, h11, h12, h13, h14⟩
    obtain ⟨b', off', e', hc'⟩ := h10.2.2 h0
    exact ⟨b', off', e', fun q hq => (hk ⟨b', off' + q, Option.none⟩ (hb.not (hc' q hq) (fun _ _ _ e => by cases e))).trans (hc' q hq)⟩
end Go.Proofs.Ytlkfdnbgplkiiaa.Trace
