/-
  Operations of a drawn region that are not wanted, a row of them passed at once. By an AI agent.
-/
import Derived.Deep.RegionHeld3
namespace Go.Proofs.Ytidailkpkcgmjaa.Skips
open Go

section
variable {P : Program} {ops : Array Oper} {Q : Exit → Act → World → Prop} {md : Region.Mode} {S : World → Prop}

/-- May these be passed, one behind the other? -/
def skipsOk (md : Region.Mode) (ops : Array Oper) : List Nat → Array Bool → Act → Bool
  | [], _, _ => true
  | i :: is, listed, a => match ops[i]? with
    | none => false
    | some o => Region.free md ops listed i && (Region.ready md ops listed).contains i && !(Region.wanted o (yielded ops a.tmps)) && skipsOk md ops is (listed.setIfInBounds i true) (a.put o.dst undef)
/-- What is listed then. -/
def skipListed : List Nat → Array Bool → Array Bool
  | [], listed => listed
  | i :: is, listed => skipListed is (listed.setIfInBounds i true)
/-- The state then. -/
def skipAct (ops : Array Oper) : List Nat → Act → Act
  | [], a => a
  | i :: is, a => match ops[i]? with
    | none => a
    | some o => skipAct ops is (a.put o.dst undef)

theorem skips {w : World} (hs : Region.noSelect ops = true) (hQ : ∀ (d : Tmp) (v : Value) c a w, Q (.panic c) (a.put (some d) v) w → Q (.panic c) a w) (hS : S w) :
    ∀ (is : List Nat) (n fuel : Nat) (listed : Array Bool) (a : Act), n = fuel + is.length → skipsOk md ops is listed a = true →
      wpAnyH P md ops Q S fuel (skipListed is listed) (skipAct ops is a) w → wpAnyH P md ops Q S n listed a w := by
  intro is
  induction is with
  | nil => intro n fuel listed a hn _ h; subst hn; exact h
  | cons i is ih =>
    intro n fuel listed a hn hk h
    subst hn
    unfold skipsOk at hk
    unfold skipAct at h
    cases hi : ops[i]? with
    | none => rw [hi] at hk; cases hk
    | some o =>
      rw [hi] at hk h
      simp only [Bool.and_eq_true, Bool.not_eq_true'] at hk
      obtain ⟨⟨⟨h1, h2⟩, h3⟩, h4⟩ := hk
      exact wpAnyH_take (fuel := fuel + is.length) hi hs h1 h2 (by cases o.dst with | none => exact fun _ _ _ h => h | some d => exact hQ d _) (Or.inr ⟨h3, rfl⟩) hS (ih _ fuel _ _ rfl h4 h)
end
end Go.Proofs.Ytidailkpkcgmjaa.Skips
