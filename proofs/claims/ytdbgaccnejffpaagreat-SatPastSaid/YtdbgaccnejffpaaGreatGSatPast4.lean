/-
  Formulas and regular expressions as trees; what holds of them between two points of a trace (stage 15). By an AI agent.
  The walks of the reference's number and square (stage 14). By an AI agent.
  The walk of the reference's product (stage 14). By an AI agent.
  Lists of nodes in memory; what a list of nodes that came in reads as; spans compared by value; a slice from a place on. By an AI agent.
-/
import Derived.Test.YtdbgaccnejffpaaGreatGSatPast2
import Derived.Test.YtdbgaccnejffpaaGreatGSatPast3
import Derived.Test.YtdbgaccnejffpaaGreatGSatPast1
import Derived.Test.YtdbgaccnejffpaaGreatChecked
import Derived.WalkKit
import Derived.WalkSpells
import Derived.Below
import Derived.Lib.Hide
import Derived.Deep.Slices
import Derived.Deep.Fields
import Derived.ChangeSame
import Derived.ChangeArms
import Derived.ChangeSlices
import Derived.Laws.StructEq
import Derived.IntWalk
import Derived.Deep.QuietTactic
import Derived.BigQuiet
namespace Go.Proofs.YtdbgaccnejffpaaGreat.Sat
open Go.Proofs.YtdbgaccnejffpaaGreat.Paths

structure Tm where
 n : Nat
 tm : Nat → Nat
 pr : List UInt8 → Nat → Prop
inductive Fo where
 | z (k : Int) (s : List UInt8)
 | o (k lo hi : Int) (a : Fo)
 | t (k lo hi : Int) (a b : Fo)
def Tm.near (T : Tm) (lo hi : Int) (i j : Nat) : Prop := Ival.hasS lo hi (T.tm j - T.tm i) = true
def leafP (T : Tm) (k : Int) (s : List UInt8) (i : Nat) : Prop := k = 1 ∨ (k = 3 ∧ T.pr s i)
def oneP (T : Tm) (k lo hi : Int) (A : Nat → Nat → Prop) (i : Nat) : Prop :=
 if k = 4 then ¬ A i i
 else if k = 8 then 0 < i ∧ T.near lo hi (i - 1) i ∧ A (i - 1) (i - 1)
 else if k = 9 then i + 1 < T.n ∧ T.near lo hi i (i + 1) ∧ A (i + 1) (i + 1)
 else if k = 10 then ∃ j, j ≤ i ∧ T.near lo hi j i ∧ A j j
 else if k = 11 then ∀ j, j ≤ i → T.near lo hi j i → A j j
 else if k = 12 then ∃ j, i ≤ j ∧ j < T.n ∧ T.near lo hi i j ∧ A j j
 else if k = 13 then ∀ j, i ≤ j → j < T.n → T.near lo hi i j → A j j
 else if k = 16 then ∃ j, j ≤ i ∧ T.near lo hi j i ∧ A j i
 else if k = 17 then ∃ j, i ≤ j ∧ j < T.n ∧ T.near lo hi i j ∧ A i j
 else A i i
def twoP (T : Tm) (k lo hi : Int) (A B : Nat → Nat → Prop) (i : Nat) : Prop :=
 if k = 5 then A i i ∧ B i i
 else if k = 6 then A i i ∨ B i i
 else if k = 7 then (A i i → B i i)
 else if k = 14 then ∃ j, j ≤ i ∧ T.near lo hi j i ∧ B j j ∧ ∀ q, j < q → q ≤ i → A q q
 else if k = 15 then ∃ j, i ≤ j ∧ j < T.n ∧ T.near lo hi i j ∧ B j j ∧ ∀ q, i ≤ q → q < j → A q q
 else False
def sem (T : Tm) : Fo → Nat → Nat → Prop
 | .z k s, i, j => if k = 18 then j = i + 1 ∧ j < T.n else j = i ∧ i < T.n ∧ leafP T k s i
 | .o k lo hi a, i, j => if k = 22 then i < T.n ∧ Chain (sem T a) i j else j = i ∧ i < T.n ∧ oneP T k lo hi (sem T a) i
 | .t k lo hi a b, i, j =>
   if k = 20 then sem T a i j ∨ sem T b i j
   else if k = 21 then ∃ m, sem T a i m ∧ sem T b m j
   else j = i ∧ i < T.n ∧ twoP T k lo hi (sem T a) (sem T b) i

theorem sem_on (T : Tm) : ∀ f : Fo, On T.n (sem T f) := by
 intro f
 induction f with
 | z k s =>
   intro i j h
   unfold sem at h
   split at h
   · exact ⟨by omega, h.2⟩
   · exact ⟨h.2.1, by have := h.1; have := h.2.1; omega⟩
 | o k lo hi a ih =>
   intro i j h
   unfold sem at h
   split at h
   · obtain ⟨h1, c, h2⟩ := h
     exact ⟨h1, chainN_on ih h2 h1⟩
   · exact ⟨h.2.1, by have := h.1; have := h.2.1; omega⟩
 | t k lo hi a b iha ihb =>
   intro i j h
   unfold sem at h
   split at h
   · exact h.elim (iha i j) (ihb i j)
   split at h
   · obtain ⟨m, h1, h2⟩ := h
     exact ⟨(iha i m h1).1, (ihb m j h2).2⟩
   · exact ⟨h.2.1, by have := h.1; have := h.2.1; omega⟩
theorem sem_le (T : Tm) : ∀ (f : Fo) (i j : Nat), sem T f i j → i ≤ j := by
 intro f
 induction f with
 | z k s =>
   intro i j h
   unfold sem at h
   split at h
   · omega
   · have := h.1; omega
 | o k lo hi a ih =>
   intro i j h
   unfold sem at h
   split at h
   · exact chain_le ih h.2
   · have := h.1; omega
 | t k lo hi a b iha ihb =>
   intro i j h
   unfold sem at h
   split at h
   · exact h.elim (iha i j) (ihb i j)
   split at h
   · obtain ⟨m, h1, h2⟩ := h
     exact Nat.le_trans (iha i m h1) (ihb m j h2)
   · have := h.1; omega

/-! ### a part of the points -/
def pastK : List Int := [8, 10, 11, 14, 16]
def futK : List Int := [9, 12, 13, 15, 17]
def free (K : List Int) : Fo → Prop
 | .z _ _ => True
 | .o k _ _ a => k ∉ K ∧ free K a
 | .t k _ _ a b => k ∉ K ∧ free K a ∧ free K b
theorem ex_shift {a : Nat} {P Q : Nat → Prop} (h1 : ∀ q, P q → Q (q + a)) (h2 : ∀ q, Q q → ∃ q', q = q' + a ∧ P q') : (∃ q, P q) ↔ ∃ q, Q q :=
 ⟨fun ⟨q, h⟩ => ⟨q + a, h1 q h⟩, fun ⟨q, h⟩ => by obtain ⟨q', -, h'⟩ := h2 q h; exact ⟨q', h'⟩⟩
theorem sem_window {T T' : Tm} {a : Nat} (ha : T'.n + a ≤ T.n) (hn : ∀ lo hi i j, i ≤ j → j < T'.n → (T'.near lo hi i j ↔ T.near lo hi (i + a) (j + a))) (hp : ∀ s i, i < T'.n → (T'.pr s i ↔ T.pr s (i + a))) :
   ∀ f : Fo, (a = 0 ∨ free pastK f) → (T'.n + a = T.n ∨ free futK f) → ∀ i j, i < T'.n → j < T'.n → (sem T' f i j ↔ sem T f (i + a) (j + a)) := by
 intro f
 induction f with
 | z k s =>
   intro _ _ i j hi hj
   unfold sem
   split
   · constructor <;> intro h <;> omega
   · unfold leafP
     rw [hp s i hi]
     constructor
     · rintro ⟨rfl, h2, h3⟩; exact ⟨rfl, by omega, h3⟩
     · rintro ⟨h1, h2, h3⟩; exact ⟨by omega, hi, h3⟩
 | o k lo up f ih =>
   intro hA hB i j hi hj
   have ih := ih (hA.imp id fun h => h.2) (hB.imp id fun h => h.2)
   have hP : ∀ x ∈ pastK, k = x → a = 0 := fun x hx e => hA.elim id fun h => absurd (e ▸ hx) h.1
   have hF : ∀ x ∈ futK, k = x → T'.n + a = T.n := fun x hx e => hB.elim id fun h => absurd (e ▸ hx) h.1
   unfold sem
   split
   · exact and_congr ⟨fun _ => by omega, fun _ => hi⟩ ⟨chain_into (sem_on T' f) ih, chain_cut (sem_le T f) ih hi hj⟩
   · have e1 : (j = i ∧ i < T'.n) ↔ (j + a = i + a ∧ i + a < T.n) := by omega
     rw [← and_assoc, ← and_assoc, e1]
     refine and_congr_right fun _ => ?_
     unfold oneP
     split
     · exact not_congr (ih i i hi hi)
     split
     · next e =>
       obtain rfl := hP 8 (by decide) e
       refine and_congr_right fun h0 => ?_
       rw [hn lo up (i - 1) i (by omega) hi, ih (i - 1) (i - 1) (by omega) (by omega)]
       exact Iff.rfl
     split
     · next e =>
       have hE := hF 9 (by decide) e
       rw [show i + a + 1 = i + 1 + a by omega]
       constructor
       · rintro ⟨h1, h2, h3⟩
         exact ⟨by omega, (hn lo up i (i + 1) (by omega) h1).1 h2, (ih (i + 1) (i + 1) h1 h1).1 h3⟩
       · rintro ⟨h1, h2, h3⟩
         have h1 : i + 1 < T'.n := by omega
         exact ⟨h1, (hn lo up i (i + 1) (by omega) h1).2 h2, (ih (i + 1) (i + 1) h1 h1).2 h3⟩
     split
     · next e =>
       obtain rfl := hP 10 (by decide) e
       refine exists_congr fun q => and_congr_right fun hq => ?_
       rw [hn lo up q i hq hi, ih q q (by omega) (by omega)]
       exact Iff.rfl
     split
     · next e =>
       obtain rfl := hP 11 (by decide) e
       refine forall_congr' fun q => ?_
       constructor
       · intro h hq h2
         exact (ih q q (by have : q ≤ i := hq; omega) (by have : q ≤ i := hq; omega)).1 (h hq ((hn lo up q i hq hi).2 h2))
       · intro h hq h2
         exact (ih q q (by omega) (by omega)).2 (h hq ((hn lo up q i hq hi).1 h2))
     split
     · next e =>
       have hE := hF 12 (by decide) e
       refine ex_shift (a := a) (fun q => ?_) (fun q => ?_)
       · rintro ⟨h1, h2, h3, h4⟩
         exact ⟨by omega, by omega, (hn lo up i q h1 h2).1 h3, (ih q q h2 h2).1 h4⟩
       · rintro ⟨h1, h2, h3, h4⟩
         obtain ⟨q', rfl⟩ : ∃ q', q = q' + a := ⟨q - a, by omega⟩
         have h2 : q' < T'.n := by omega
         exact ⟨q', rfl, by omega, h2, (hn lo up i q' (by omega) h2).2 h3, (ih q' q' h2 h2).2 h4⟩
     split
     · next e =>
       have hE := hF 13 (by decide) e
       constructor
       · intro h q h1 h2 h3
         obtain ⟨q', rfl⟩ : ∃ q', q = q' + a := ⟨q - a, by omega⟩
         have h2 : q' < T'.n := by omega
         exact (ih q' q' h2 h2).1 (h q' (by omega) h2 ((hn lo up i q' (by omega) h2).2 h3))
       · intro h q h1 h2 h3
         exact (ih q q h2 h2).2 (h (q + a) (by omega) (by omega) ((hn lo up i q h1 h2).1 h3))
     split
     · next e =>
       obtain rfl := hP 16 (by decide) e
       refine exists_congr fun q => and_congr_right fun hq => ?_
       rw [hn lo up q i hq hi, ih q i (by omega) hi]
       exact Iff.rfl
     split
     · next e =>
       have hE := hF 17 (by decide) e
       refine ex_shift (a := a) (fun q => ?_) (fun q => ?_)
       · rintro ⟨h1, h2, h3, h4⟩
         exact ⟨by omega, by omega, (hn lo up i q h1 h2).1 h3, (ih i q hi h2).1 h4⟩
       · rintro ⟨h1, h2, h3, h4⟩
         obtain ⟨q', rfl⟩ : ∃ q', q = q' + a := ⟨q - a, by omega⟩
         have h2 : q' < T'.n := by omega
         exact ⟨q', rfl, by omega, h2, (hn lo up i q' (by omega) h2).2 h3, (ih i q' hi h2).2 h4⟩
     · exact ih i i hi hi
 | t k lo up f g ihf ihg =>
   intro hA hB i j hi hj
   have ihf := ihf (hA.imp id fun h => h.2.1) (hB.imp id fun h => h.2.1)
   have ihg := ihg (hA.imp id fun h => h.2.2) (hB.imp id fun h => h.2.2)
   have hP : ∀ x ∈ pastK, k = x → a = 0 := fun x hx e => hA.elim id fun h => absurd (e ▸ hx) h.1
   unfold sem
   split
   · exact or_congr (ihf i j hi hj) (ihg i j hi hj)
   split
   · refine ex_shift (a := a) (fun q => ?_) (fun q => ?_)
     · rintro ⟨h1, h2⟩
       have hq := (sem_on T' f i q h1).2
       exact ⟨(ihf i q hi hq).1 h1, (ihg q j hq hj).1 h2⟩
     · rintro ⟨h1, h2⟩
       have l1 := sem_le T f _ _ h1
       have l2 := sem_le T g _ _ h2
       obtain ⟨q', rfl⟩ : ∃ q', q = q' + a := ⟨q - a, by omega⟩
       exact ⟨q', rfl, (ihf i q' hi (by omega)).2 h1, (ihg q' j (by omega) hj).2 h2⟩
   · have e1 : (j = i ∧ i < T'.n) ↔ (j + a = i + a ∧ i + a < T.n) := by omega
     rw [← and_assoc, ← and_assoc, e1]
     refine and_congr_right fun _ => ?_
     unfold twoP
     split
     · exact and_congr (ihf i i hi hi) (ihg i i hi hi)
     split
     · exact or_congr (ihf i i hi hi) (ihg i i hi hi)
     split
     · exact imp_congr (ihf i i hi hi) (ihg i i hi hi)
     split
     · next e =>
       obtain rfl := hP 14 (by decide) e
       refine exists_congr fun q => and_congr_right fun hq => ?_
       rw [hn lo up q i hq hi, ihg q q (by omega) (by omega)]
       refine and_congr_right fun _ => and_congr_right fun _ => forall_congr' fun p => forall_congr' fun h1 => ?_
       constructor
       · intro h h2; exact (ihf p p (by have : p ≤ i := h2; omega) (by have : p ≤ i := h2; omega)).1 (h h2)
       · intro h h2; exact (ihf p p (by omega) (by omega)).2 (h h2)
     split
     · next e =>
       have hE : T'.n + a = T.n := hB.elim id fun h => absurd (e ▸ (by decide : (15 : Int) ∈ futK)) h.1
       refine ex_shift (a := a) (fun q => ?_) (fun q => ?_)
       · rintro ⟨h1, h2, h3, h4, h5⟩
         refine ⟨by omega, by omega, (hn lo up i q h1 h2).1 h3, (ihg q q h2 h2).1 h4, fun p p1 p2 => ?_⟩
         obtain ⟨p', rfl⟩ : ∃ p', p = p' + a := ⟨p - a, by omega⟩
         exact (ihf p' p' (by omega) (by omega)).1 (h5 p' (by omega) (by omega))
       · rintro ⟨h1, h2, h3, h4, h5⟩
         obtain ⟨q', rfl⟩ : ∃ q', q = q' + a := ⟨q - a, by omega⟩
         have h2 : q' < T'.n := by omega
         exact ⟨q', rfl, by omega, h2, (hn lo up i q' (by omega) h2).2 h3, (ihg q' q' h2 h2).2 h4, fun p p1 p2 => (ihf p p (by omega) (by omega)).2 (h5 (p + a) (by omega) (by omega))⟩
     · exact Iff.rfl
theorem if_iff {p q : Prop} [Decidable p] [Decidable q] {α : Sort _} {x y u v : α} (h : p ↔ q) (h1 : x = u) (h2 : y = v) : (if p then x else y) = if q then u else v := by
 by_cases hp : p
 · rw [if_pos hp, if_pos (h.1 hp), h1]
 · rw [if_neg hp, if_neg (fun e => hp (h.2 e)), h2]
end Go.Proofs.YtdbgaccnejffpaaGreat.Sat

namespace Go.Proofs.YtdbgaccnejffpaaGreat.Paths
open Go.RowKit Go.Proofs.YtdbgaccnejffpaaGreat.Ints Go.Proofs.YtdbgaccnejffpaaGreat.Mem Go.Proofs.YtdbgaccnejffpaaGreat.Src

def numT (zs : List Int) (x : Int) : Int := if zs.findIdx (· == x) < zs.length then ((zs.findIdx (· == x) : Nat) : Int) else -1
theorem num_at {zs : List Int} {x : Int} {i : Nat} (hi : i < zs.length) (h : zs[i]?.getD 0 = x) (hb : ∀ m, m < i → zs[m]?.getD 0 ≠ x) : numT zs x = (i : Nat) := by
 have e : zs.findIdx (· == x) = i := by
   rw [List.findIdx_eq hi]
   refine ⟨?_, fun j hj => ?_⟩
   · rw [List.getElem?_eq_getElem hi] at h
     exact beq_iff_eq.2 h
   · have := hb j hj
     rw [List.getElem?_eq_getElem (by omega)] at this
     exact Bool.eq_false_iff.2 (fun e => this (beq_iff_eq.1 e))
 unfold numT
 rw [e, if_pos hi]
end Go.Proofs.YtdbgaccnejffpaaGreat.Paths

namespace Go.Proofs.YtdbgaccnejffpaaGreat.Paths
open Go.RowKit Go.Proofs.YtdbgaccnejffpaaGreat.Ints Go.Proofs.YtdbgaccnejffpaaGreat.Mem Go.Proofs.YtdbgaccnejffpaaGreat.Src

end Go.Proofs.YtdbgaccnejffpaaGreat.Paths

/- Lists of nodes in memory; what a list of nodes that came in reads as. By an AI agent. -/
namespace Go.Proofs.YtdbgaccnejffpaaGreat.Tree
open Go.RowKit Go.ChangeShapes Go.WideShapes Go.Deep Go.Proofs.YtdbgaccnejffpaaGreat.Ints

structure Nd where
 kind : Int
 name : ByteArray
 lo : Int
 hi : Int
 kids : List Int

def small64 (x : Int) : Prop := -9223372036854775808 ≤ x ∧ x ≤ 9223372036854775807
def Any : Nat → Prop := fun _ => True
def NodeAt (S : Nat → Prop) (w : World) (b o : Nat) (n : Nd) : Prop :=
 w.cell? ⟨b, o, none⟩ = some (.int .i64 n.kind) ∧ w.cell? ⟨b, o + 1, none⟩ = some (.string n.name) ∧ w.cell? ⟨b, o + 2, none⟩ = some (.int .i64 n.lo) ∧ w.cell? ⟨b, o + 3, none⟩ = some (.int .i64 n.hi) ∧
   small64 n.kind ∧ small64 n.lo ∧ small64 n.hi ∧ n.name.size ≤ maxLen ∧
   ∃ (K : Option Addr) (c : Nat), w.cell? ⟨b, o + 4, none⟩ = some (.slice K n.kids.length c) ∧ Rd .i64 w K n.kids.length n.kids ∧ n.kids.length ≤ c ∧ c ≤ maxLen ∧ S b ∧ (∀ a, K = some a → 0 < n.kids.length → S a.block)
theorem NodeAt.keep {S : Nat → Prop} {w w' : World} {b o : Nat} {n : Nd} (h : NodeAt S w b o n) (hk : ∀ p u, S p.block → w.cell? p = some u → w'.cell? p = some u) : NodeAt S w' b o n := by
 obtain ⟨h1, h2, h3, h4, h5, h6, h7, h8, K, c, h9, h10, h11, h12, h13, h14⟩ := h
 refine ⟨hk _ _ h13 h1, hk _ _ h13 h2, hk _ _ h13 h3, hk _ _ h13 h4, h5, h6, h7, h8, K, c, hk _ _ h13 h9, ⟨h10.1, h10.2.1, fun h0 => ?_⟩, h11, h12, h13, h14⟩
 obtain ⟨b', off, e, hc⟩ := h10.2.2 h0
 exact ⟨b', off, e, fun j hj => hk ⟨b', off + j, none⟩ _ (h14 ⟨b', off, none⟩ e h0) (hc j hj)⟩
theorem NodeAt.mono {S S' : Nat → Prop} {w : World} {b o : Nat} {n : Nd} (h : NodeAt S w b o n) (hs : ∀ b, b < w.heap.size → S b → S' b) : NodeAt S' w b o n := by
 obtain ⟨h1, h2, h3, h4, h5, h6, h7, h8, K, c, h9, h10, h11, h12, h13, h14⟩ := h
 refine ⟨h1, h2, h3, h4, h5, h6, h7, h8, K, c, h9, h10, h11, h12, hs _ (World.block_lt_of_cell? w _ h1) h13, fun a e h0 => ?_⟩
 obtain ⟨b', off, e', hc⟩ := h10.2.2 h0
 subst e
 injection e' with e'
 subst e'
 exact hs _ (World.block_lt_of_cell? w _ (hc 0 h0)) (h14 _ rfl h0)
def Nodes (S : Nat → Prop) (w : World) (A : Option Addr) (l : List Nd) : Prop :=
 0 < l.length → ∃ b off, A = some ⟨b, off, none⟩ ∧ ∀ (j : Nat) (n : Nd), l[j]? = some n → NodeAt S w b (off + 5 * j) n
theorem Nodes.keep {S : Nat → Prop} {w w' : World} {A : Option Addr} {l : List Nd} (h : Nodes S w A l) (hk : ∀ p u, S p.block → w.cell? p = some u → w'.cell? p = some u) : Nodes S w' A l := fun h0 => by
 obtain ⟨b, off, h1, h2⟩ := h h0
 exact ⟨b, off, h1, fun j n hn => (h2 j n hn).keep hk⟩
theorem Nodes.mono {S S' : Nat → Prop} {w : World} {A : Option Addr} {l : List Nd} (h : Nodes S w A l) (hs : ∀ b, b < w.heap.size → S b → S' b) : Nodes S' w A l := fun h0 => by
 obtain ⟨b, off, h1, h2⟩ := h h0
 exact ⟨b, off, h1, fun j n hn => (h2 j n hn).mono hs⟩
theorem Nodes.any {S : Nat → Prop} {w : World} {A : Option Addr} {l : List Nd} (h : Nodes S w A l) : Nodes Any w A l := h.mono fun _ _ _ => trivial
theorem Nodes.below {S : Nat → Prop} {w w' : World} {A : Option Addr} {l : List Nd} (h : Nodes S w A l) (hb : Below w.heap.size w w') : Nodes S w' A l :=
 h.keep fun p _ _ hp => (hb.cell (World.block_lt_of_cell? w p hp)).trans hp
theorem Nodes.nil (S : Nat → Prop) (w : World) (A : Option Addr) : Nodes S w A [] := fun h => by simp at h

theorem structSpan : Tryz.prog.underlying 45 = some (.struct (Tryz.prog.fieldsOf 45)) := by kernel_rfl
section
variable {H : Type} {enc : TypeId × Value → H} {w : World}
def NodeOk (w : World) (n : Nd) (K : Option Addr) (c : Nat) : Prop :=
 small64 n.kind ∧ small64 n.lo ∧ small64 n.hi ∧ n.name.size ≤ maxLen ∧ Rd .i64 w K n.kids.length n.kids ∧ n.kids.length ≤ c ∧ c ≤ maxLen
end
end Go.Proofs.YtdbgaccnejffpaaGreat.Tree

/- Spans compared by value; a slice from a place on. By an AI agent. -/
namespace Go.Proofs.YtdbgaccnejffpaaGreat.Tree
open Go.RowKit Go.Proofs.YtdbgaccnejffpaaGreat.Ints

theorem fieldsSpan3 : (Tryz.prog.fieldsOf 45).toList.map (fun f => (f.name, f.type, f.offset)) = [("Lo", 3, 0), ("Hi", 3, 1)] := by kernel_rfl
theorem stoodSpan : Tryz.prog.stoodInHeld 45 = false := by kernel_rfl
theorem guardSpan : Tryz.prog.eqGuardType Tryz.prog.depth 45 = false := by kernel_rfl
theorem part_int {P : Program} (w : World) (t : TypeId) (cs : Array Value) (o : Nat) (v : Value) {k : IntKind} (ht : P.underlying t = some (.int k)) (hv : cs[o]? = some v) : (part t cs o).run P w = .ok v w := by
 simp [part, isAgg, run_underlying ht, hv]
set_option maxRecDepth 100000 in
theorem span_equal (a b c d : Int) (w : World) : (Op.equalIn 10000 45 (.agg #[.int .i64 a, .int .i64 b]) (.agg #[.int .i64 c, .int .i64 d])).run Tryz.prog w = .ok (decide (a = c ∧ b = d)) w := by
 rw [run_equalIn_struct w _ _ _ _ structSpan stoodSpan]
 generalize hfs : (Tryz.prog.fieldsOf 45).toList = fs
 have h := fieldsSpan3
 rw [hfs] at h
 match fs, h with
 | [f0, f1], h =>
   simp only [List.map_cons, List.map_nil, List.cons.injEq, Prod.mk.injEq, and_true] at h
   obtain ⟨⟨n0, t0, o0⟩, n1, t1, o1⟩ := h
   have q0 : ∀ (W : World) (x y : Value), (part 3 #[x, y] 0).run Tryz.prog W = .ok x W := fun W x y => part_int W _ _ 0 x Tryz.underlying3 rfl
   have q1 : ∀ (W : World) (x y : Value), (part 3 #[x, y] 1).run Tryz.prog W = .ok y W := fun W x y => part_int W _ _ 1 y Tryz.underlying3 rfl
   have e0 : ∀ (W : World) (x y : Int), (Op.equalIn 9999 3 (.int .i64 x) (.int .i64 y)).run Tryz.prog W = .ok (x == y) W := fun W x y => run_equalIn_int W 9998 _ .i64 .i64 x y Tryz.underlying3
   have hk : ∀ x y : Int, (x == y) = decide (x = y) := fun x y => by
     rw [Bool.eq_iff_iff, beq_iff_eq, decide_eq_true_iff]
   have hfin : decide (a = c ∧ b = d) = (decide (a = c) && decide (b = d)) := Bool.decide_and _ _
   rw [hfin]
   simp only [Op.eqFields, n0, t0, o0, n1, t1, o1, q0, q1, e0, hk, Sem.run_bind, Result.andThen_ok, ne_eq, String.reduceEq, not_false_eq_true, if_true, Sem.run_ite, Sem.run_pure]
   generalize decide (a = c) = b0
   generalize decide (b = d) = b1
   cases b0 <;> cases b1 <;> rfl
set_option maxRecDepth 100000 in
theorem span_eql (a b c d : Int) (w : World) : (binOp .eql 45 (.agg #[.int .i64 a, .int .i64 b]) (.agg #[.int .i64 c, .int .i64 d])).run Tryz.prog w = .ok (.bool (decide (a = c ∧ b = d))) w := by
 rw [run_eql_struct, span_equal]
 rfl

def fromAddr (A : Option Addr) (cap k size : Nat) : Option Addr := if cap = k then A else A.map (·.add (k * size))
set_option maxRecDepth 100000 in
theorem slice_from {P : Program} (t : TypeId) (ht : P.underlying t = some (.slice (P.elem t))) (size : Nat) (hs : (P.info? (P.elem t)).map (·.size) = some size) (A : Option Addr) (n cap k : Nat) (hk : k ≤ n) (W : World) :
   (Instr.slice t (.slice A n cap) (some (.int .i64 (k : Int))) none none).run P W = .ok (.slice (fromAddr A cap k size) (n - k) (cap - k)) W := by
 rw [run_slice_l W t A n cap ht .i64 (k : Int) (by omega) (by omega)]
 obtain ⟨i, hi, hz⟩ := Option.map_eq_some_iff.1 hs
 simp [sizeOf, typeInfo, hi, hz, Result.andThen, sliced, fromAddr]
theorem Rd.from {k : IntKind} {w : World} {A : Option Addr} {n cap j : Nat} {zs : List Int} (h : Rd k w A n zs) (hn : n ≤ cap) (hj : j ≤ n) : Rd k w (fromAddr A cap j 1) (n - j) (zs.drop j) := by
 unfold fromAddr
 by_cases hc : cap = j
 · rw [if_pos hc]
   have e : n - j = 0 := by omega
   have e2 : zs.drop j = [] := List.drop_eq_nil_of_le (by rw [h.len]; omega)
   rw [e, e2]
   exact Rd.nil _ _ _
 · rw [if_neg hc, Nat.mul_one]
   by_cases h0 : n = 0
   · have e : n - j = 0 := by omega
     have e2 : zs.drop j = [] := List.drop_eq_nil_of_le (by rw [h.len]; omega)
     rw [e, e2]
     exact Rd.nil _ _ _
   · obtain ⟨b, off, rfl, -⟩ := h.cell (by omega)
     have := h.drop hj
     have e : (⟨b, off, none⟩ : Addr).add j = ⟨b, off + j, none⟩ := by unfold Addr.add; split <;> simp_all
     rw [Option.map_some, e]
     exact this
theorem fcell {W w1 : World} (hb : Below W.heap.size W w1) : (∀ b o, b < W.heap.size → w1.cell? ⟨b, o, none⟩ = W.cell? ⟨b, o, none⟩) ∧ (∀ b o, b < W.heap.size → w1.frozen? ⟨b, o, none⟩ = W.frozen? ⟨b, o, none⟩) :=
 ⟨fun b o h => hb.cell (p := ⟨b, o, none⟩) h, fun b o h => hb.frozen (p := ⟨b, o, none⟩) h⟩
theorem below_cell {w w' : World} {b o : Nat} {u : Value} (hb : Below w.heap.size w w') (h : w.cell? ⟨b, o, none⟩ = some u) : w'.cell? ⟨b, o, none⟩ = some u :=
 (hb.cell (World.block_lt_of_cell? w _ h)).trans h
theorem box_cell {w : World} {cs : Array Value} {T : TypeId} (o : Nat) (u : Value) (h : cs[o]? = some u) : (w.alloc (.cells cs T)).cell? ⟨w.heap.size, o, none⟩ = some u := by
 rw [cell_of_row _ w.heap.size o _ T (0, 0) (heap_alloc_new w _)]
 exact h
theorem below_row {w w' : World} {base : Nat} {e : TypeId} {size : Nat} {v : Value} {n : Nat} {xs : List Value} (h : w.ownsRow base e size v n xs) (hb : Below w.heap.size w w') : w'.ownsRow base e size v n xs :=
 h.kept (row := none) ⟨hb.os, hb.tape, hb.output, hb.size, fun i hi _ => hb.block i hi⟩ (by cases v.ownBlock <;> simp)
theorem below_drewN {B : Nat} {a w : World} (h : Below B a w) (n : Nat) : Below B a (w.drewN n) := ⟨h.os, h.tape, h.output, h.size, h.block⟩
end Go.Proofs.YtdbgaccnejffpaaGreat.Tree
