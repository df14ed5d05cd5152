/-
  A drawn region in which loads stand beside a late store into what they read: S is asked only as long as nothing late has come up. By an AI agent.
  A drawn region's operations taken one by one, in few words. By an AI agent.
  Slices of integers, as a walk needs them: a slice that reads as a list of numbers, whatever its address where it is empty; what is appended to a row of the call's own. By an AI agent.
  Chains of a relation on the points below n; tables of it by squaring (stage 14). By an AI agent.
-/
import Derived.Deep.RegionHeld3
import Derived.WalkKit
import Derived.WalkSpells
import Derived.Below
import Derived.Laws.OwnMore
import Derived.Laws.MakeOwn
import Derived.Deep.Draws
import Derived.Lib.SlBytesConst
import Derived.Laws.BytesArg
import Derived.Laws.Strings
import Derived.OwnWalk
namespace Go.Proofs.YtdbgaccnejffpaaGreatDoor.Late
open Go
section
variable {P : Program} {ops : Array Oper} {Q : Exit → Act → World → Prop} {md : Region.Mode} {S : World → Prop} {late : List Nat}
def wpAnyL (P : Program) (md : Region.Mode) (ops : Array Oper) (Q : Exit → Act → World → Prop) (S : World → Prop) (late : List Nat) : Nat → Array Bool → Act → World → Prop
 | 0, listed, a, w => Region.ready md ops listed = [] ∧ Q .normal a w
 | fuel + 1, listed, a, w =>
  (Region.ready md ops listed = [] → Q .normal a w) ∧
  ∀ i ∈ Region.ready md ops listed, wpOp P ops Q i (fun a' w' => if late.contains i = true then wpAnyH P md ops Q (fun _ => True) fuel (listed.setIfInBounds i true) a' w' else S w' ∧ wpAnyL P md ops Q S late fuel (listed.setIfInBounds i true) a' w') a w
theorem wpAny_of_late : ∀ (fuel : Nat) (listed : Array Bool) (a : Act) (w : World), wpAnyL P md ops Q S late fuel listed a w → wpAny P md ops Q fuel listed a w
 | 0, _, _, _, h => h
 | fuel + 1, _, _, _, h => ⟨h.1, fun i hi => wpOp_mono (fun a' w' h' => by
   by_cases hl : late.contains i = true
   ·rw [if_pos hl] at h'
    exact wpAny_of_held fuel _ a' w' h'
   ·rw [if_neg hl] at h'
    exact wpAny_of_late fuel _ a' w' h'.2) (h.2 i hi)⟩
def waiters (md : Region.Mode) (ops : Array Oper) (i : Nat) : List Nat :=
 (List.range ops.size).foldl (fun acc j => match ops[j]? with
  | none => acc
  | some o => if o.after.toList.any (fun e => Region.binds md e && (e.on == i || acc.contains e.on)) then j :: acc else acc) []
def waits (md : Region.Mode) (ops : Array Oper) (i : Nat) (W : List Nat) : Bool :=
 W.all fun j => match ops[j]? with
  | none => false
  | some o => o.after.toList.any fun e => Region.binds md e && (e.on == i || W.contains e.on)
def lateOk (md : Region.Mode) (ops : Array Oper) (late : List Nat) (listed : Array Bool) (i : Nat) : Bool :=
 waits md ops i (waiters md ops i) && late.all (fun j => (waiters md ops i).contains j) && (waiters md ops i).all fun j => !(listed.getD j false)
theorem getD_two {l : Array Bool} {k : Nat} (h : l.getD k true = false) : l.getD k false = false := by
 rcases Nat.lt_or_ge k l.size with h' | h'
 ·simp only [Array.getD_eq_getD_getElem?, Array.getElem?_eq_getElem h', Option.getD_some] at h ⊢
  exact h
 ·simp only [Array.getD_eq_getD_getElem?, Array.getElem?_eq_none h', Option.getD_none] at h ⊢
theorem not_ready {i : Nat} {W : List Nat} {listed : Array Bool} (hW : waits md ops i W = true) (hi : listed.getD i true = false) (hn : ∀ j ∈ W, listed.getD j false = false) : ∀ j ∈ W, j ∉ Region.ready md ops listed := fun j hj hr => by
 obtain ⟨-, o, ho, hall⟩ := mem_ready.1 hr
 have h1 := List.all_eq_true.1 hW j hj
 rw [ho] at h1
 obtain ⟨e, he, h1⟩ := List.any_eq_true.1 h1
 simp only [Bool.and_eq_true, Bool.or_eq_true, beq_iff_eq] at h1
 obtain ⟨hb, h2⟩ := h1
 have h3 := hall e (Array.mem_toList_iff.1 he) hb
 rcases h2 with rfl | h2
 ·rw [getD_two hi] at h3
  cases h3
 ·rw [hn _ (List.contains_iff_mem.1 h2)] at h3
  cases h3
theorem first {i : Nat} {oi : Oper} {v : Value} {W : List Nat} (hi : ops[i]? = some oi) (hsel : ∀ (j : Nat) (o : Oper) cs b, ops[j]? = some o → o.op ≠ .select cs b)
  (hQ : ∀ c a w, Q (.panic c) (a.put oi.dst v) w → Q (.panic c) a w) (hW : waits md ops i W = true) (hL : ∀ j ∈ late, j ∈ W) :
  ∀ (fuel : Nat) (listed : Array Bool) (a : Act) (w : World),
   (∀ j oj, ops[j]? = some oj → j ≠ i → listed.getD j true = false → (∀ e ∈ oj.after, Region.binds md e = true → e.on ≠ i) → oi.apart ops oj = true) →
   i ∈ Region.ready md ops listed → (∀ j ∈ W, listed.getD j false = false) → YieldsIf P ops S oi v a → S w →
   wpAnyL P md ops Q S late fuel (listed.setIfInBounds i true) (a.put oi.dst v) w → wpAnyL P md ops Q S late (fuel + 1) listed a w := by
 intro fuel
 have hown : ∀ (fuel : Nat) (listed : Array Bool) (a : Act) (w : World), i ∈ Region.ready md ops listed → (∀ j ∈ W, listed.getD j false = false) → YieldsIf P ops S oi v a → S w → wpAnyL P md ops Q S late fuel (listed.setIfInBounds i true) (a.put oi.dst v) w →
   wpOp P ops Q i (fun a' w' => if late.contains i = true then wpAnyH P md ops Q (fun _ => True) fuel (listed.setIfInBounds i true) a' w' else S w' ∧ wpAnyL P md ops Q S late fuel (listed.setIfInBounds i true) a' w') a w := fun fuel listed a w hr hn hy hS H => by
  have hnl : ¬ late.contains i = true := fun e => not_ready hW (mem_ready.1 hr).1 hn i (hL i (List.contains_iff_mem.1 e)) hr
  exact hy.wpOp hi hS (by rw [if_neg hnl]; exact ⟨hS, H⟩)
 induction fuel with
 | zero =>
  intro listed a w _ hr hn hy hS H
  refine ⟨fun h => (by rw [h] at hr; cases hr), fun j hj => ?_⟩
  by_cases hji : j = i
  ·subst hji; exact hown _ _ _ _ hr hn hy hS H
  ·have := ready_mono hj hji
   rw [H.1] at this
   cases this
 | succ fuel ih =>
  intro listed a w hfree hr hn hy hS H
  refine ⟨fun h => (by rw [h] at hr; cases hr), fun j hj => ?_⟩
  by_cases hji : j = i
  ·subst hji; exact hown _ _ _ _ hr hn hy hS H
  ·have hnw : j ∉ W := fun e => not_ready hW (mem_ready.1 hr).1 hn j e hj
   have hnl : ¬ late.contains j = true := fun e => hnw (hL j (List.contains_iff_mem.1 e))
   have h1 := H.2 j (ready_mono hj hji)
   simp only [if_neg hnl] at h1 ⊢
   obtain ⟨hjun, oj, hoj, hall⟩ := mem_ready.1 hj
   have hnot : ∀ e ∈ oj.after, Region.binds md e = true → e.on ≠ i := fun e he hb heq => by
    have h2 := hall e he hb
    rw [heq, getD_two (mem_ready.1 hr).1] at h2
    cases h2
   have h2 := wpOp_putIf hoj (hfree j oj hoj hji hjun hnot) (fun cs b => hsel i oi cs b hi) (fun cs b => hsel j oj cs b hoj) hQ hy h1
   have hfree' : ∀ k ok, ops[k]? = some ok → k ≠ i → (listed.setIfInBounds j true).getD k true = false →
     (∀ e ∈ ok.after, Region.binds md e = true → e.on ≠ i) → oi.apart ops ok = true := fun k ok hk hki hun hno => by
    refine hfree k ok hk hki ?_ hno
    by_cases hjk : j = k
    ·subst hjk; exact hjun
    ·rw [getD_set_ne true hjk] at hun; exact hun
   have hn' : ∀ k ∈ W, (listed.setIfInBounds j true).getD k false = false := fun k hk => by
    rw [getD_set_ne false (fun e : j = k => hnw (e ▸ hk))]
    exact hn k hk
   refine wpOp_mono (fun a' w' h3 => ⟨h3.2.1, ih (listed.setIfInBounds j true) a' w' hfree' (ready_mono hr (Ne.symm hji)) hn' h3.1 h3.2.1 ?_⟩) h2
   rw [Array.setIfInBounds_comm _ _ hji]
   exact h3.2.2
theorem take {i : Nat} {oi : Oper} {v : Value} {fuel : Nat} {listed : Array Bool} {a : Act} {w : World} (hi : ops[i]? = some oi)
  (hs : Region.noSelect ops = true) (hf : Region.free md ops listed i = true) (hr : (Region.ready md ops listed).contains i = true) (hl : lateOk md ops late listed i = true)
  (hQ : ∀ c a w, Q (.panic c) (a.put oi.dst v) w → Q (.panic c) a w) (hy : YieldsIf P ops S oi v a) (hS : S w)
  (h : wpAnyL P md ops Q S late fuel (listed.setIfInBounds i true) (a.put oi.dst v) w) : wpAnyL P md ops Q S late (fuel + 1) listed a w := by
 unfold lateOk at hl
 simp only [Bool.and_eq_true] at hl
 exact first hi (Region.noSelect_spec hs) hQ hl.1.1 (fun j hj => List.contains_iff_mem.1 (List.all_eq_true.1 hl.1.2 j hj)) fuel listed a w (Region.free_spec hi hf) (by simpa using hr)
  (fun j hj => by have := List.all_eq_true.1 hl.2 j hj; simpa using this) hy hS h
theorem early {k : Nat} {o : Oper} {fuel : Nat} {listed : Array Bool} {a : Act} {w : World} (hr : Region.ready md ops listed = [k]) (hl : late.contains k = false) (ho : ops[k]? = some o)
  (h : ∀ K' : Act → World → Prop, Shut (∀ a w, S w → (S w → wpAnyL P md ops Q S late fuel (listed.setIfInBounds k true) a w) → K' a w) → if Region.wanted o (yielded ops a.tmps) = true then Oper.wp P o a w K' Q else K' (a.put o.dst undef) w) :
  wpAnyL P md ops Q S late (fuel + 1) listed a w := by
 refine ⟨fun h0 => (by rw [hr] at h0; cases h0), fun j hj => ?_⟩
 rw [hr, List.mem_singleton] at hj
 subst hj
 simp only [hl, Bool.false_eq_true, if_false]
 exact wpOp_step ho fun K' hK => h K' fun a w hS hW => hK a w ⟨hS, hW hS⟩
theorem last {k : Nat} {o : Oper} {fuel : Nat} {listed : Array Bool} {a : Act} {w : World} (hr : Region.ready md ops listed = [k]) (hl : late.contains k = true) (ho : ops[k]? = some o)
  (h : ∀ K' : Act → World → Prop, Shut (∀ a w, True → (True → wpAnyH P md ops Q (fun _ => True) fuel (listed.setIfInBounds k true) a w) → K' a w) → if Region.wanted o (yielded ops a.tmps) = true then Oper.wp P o a w K' Q else K' (a.put o.dst undef) w) :
  wpAnyL P md ops Q S late (fuel + 1) listed a w := by
 refine ⟨fun h0 => (by rw [hr] at h0; cases h0), fun j hj => ?_⟩
 rw [hr, List.mem_singleton] at hj
 subst hj
 simp only [hl, if_true]
 exact wpOp_step ho fun K' hK => h K' fun a w _ hW => hK a w (hW trivial)
theorem drew {id : Nat} {a : Act} {w : World} (late : List Nat) (hm : P.follows .mixedOrders = true) (hS : S w.drew)
  (h : S w.drew → wpAnyL P .any ops Q S late ops.size (Array.replicate ops.size false) a w.drew) : (Code.region id ops true).wp P Q a w :=
 wp_region_any hm (wpAny_of_late _ _ _ _ (h hS))
end
end Go.Proofs.YtdbgaccnejffpaaGreatDoor.Late

namespace Go.Proofs.YtdbgaccnejffpaaGreatDoor
open Go
theorem tkA {α : Type} (l : List α) (i : Nat) (a : α) : l.toArray.setIfInBounds i a = (l.set i a).toArray := List.setIfInBounds_toArray ..
theorem tkB {α : Type} (x : α) (l : List α) (a : α) : (x :: l).set 0 a = a :: l := rfl
theorem tkC {α : Type} (x : α) (l : List α) (i : Nat) (a : α) : (x :: l).set (i + 1) a = x :: l.set i a := rfl
section
variable {P : Program} {md : Region.Mode} {ops : Array Oper} {Q : Exit → Act → World → Prop} {S : World → Prop} {late : List Nat}
theorem tkOp (i : Nat) {oi : Oper} {v : Value} {fuel : Nat} {listed : Array Bool} {a a' : Act} {w : World} (hS : S w)
  (h : wpAnyH P md ops Q S fuel (listed.setIfInBounds i true) a' w)
  (hi : ops[i]? = some oi := by (simp only [List.getElem?_toArray, List.getElem?_cons_succ, List.getElem?_cons_zero]; rfl))
  (hs : Region.noSelect ops = true := by kernel_rfl) (hf : Region.free md ops listed i = true := by kernel_rfl) (hr : (Region.ready md ops listed).contains i = true := by kernel_rfl)
  (hQ : ∀ c a w, Q (.panic c) (a.put oi.dst v) w → Q (.panic c) a w := by exact fun _ _ _ h => h)
  (hy : YieldsIf P ops S oi v a := by exact Or.inl ⟨by rfl, by intro wSw hSw; (try dsimp only at hSw); go_simp; try with_reducible rfl⟩)
  (ha : a.put oi.dst v = a' := by (simp only [Act.put, List.setIfInBounds_toArray, List.set_cons_zero, List.set_cons_succ]; rfl)) : wpAnyH P md ops Q S (fuel + 1) listed a w := by
 subst ha
 exact wpAnyH_take hi hs hf hr hQ hy hS h
theorem ltOp (i : Nat) {oi : Oper} {v : Value} {fuel : Nat} {listed : Array Bool} {a a' : Act} {w : World} (hS : S w)
  (h : Late.wpAnyL P md ops Q S late fuel (listed.setIfInBounds i true) a' w)
  (hi : ops[i]? = some oi := by (simp only [List.getElem?_toArray, List.getElem?_cons_succ, List.getElem?_cons_zero]; rfl))
  (hs : Region.noSelect ops = true := by kernel_rfl) (hf : Region.free md ops listed i = true := by kernel_rfl) (hr : (Region.ready md ops listed).contains i = true := by kernel_rfl)
  (hl : Late.lateOk md ops late listed i = true := by kernel_rfl)
  (hQ : ∀ c a w, Q (.panic c) (a.put oi.dst v) w → Q (.panic c) a w := by exact fun _ _ _ h => h)
  (hy : YieldsIf P ops S oi v a := by exact Or.inl ⟨by rfl, by intro wSw hSw; (try dsimp only at hSw); go_simp; try with_reducible rfl⟩)
  (ha : a.put oi.dst v = a' := by (simp only [Act.put, List.setIfInBounds_toArray, List.set_cons_zero, List.set_cons_succ]; rfl)) : Late.wpAnyL P md ops Q S late (fuel + 1) listed a w := by
 subst ha
 exact Late.take hi hs hf hr hl hQ hy hS h
theorem tkCall (k : Nat) {o : Oper} {fuel : Nat} {listed : Array Bool} {a : Act} {w : World}
  (h : ∀ K' : Act → World → Prop, Shut (∀ a w, S w → (S w → wpAnyH P md ops Q S fuel (listed.setIfInBounds k true) a w) → K' a w) → if Region.wanted o (yielded ops a.tmps) = true then Oper.wp P o a w K' Q else K' (a.put o.dst undef) w)
  (ho : ops[k]? = some o := by (simp only [List.getElem?_toArray, List.getElem?_cons_succ, List.getElem?_cons_zero]; rfl))
  (hr : Region.ready md ops listed = [k] := by kernel_rfl) : wpAnyH P md ops Q S (fuel + 1) listed a w :=
 wpAnyH_ready hr (by simp) (AllReadyH.cons ho h AllReadyH.nil)
theorem ltCall (k : Nat) {o : Oper} {fuel : Nat} {listed : Array Bool} {a : Act} {w : World}
  (h : ∀ K' : Act → World → Prop, Shut (∀ a w, S w → (S w → Late.wpAnyL P md ops Q S late fuel (listed.setIfInBounds k true) a w) → K' a w) → if Region.wanted o (yielded ops a.tmps) = true then Oper.wp P o a w K' Q else K' (a.put o.dst undef) w)
  (ho : ops[k]? = some o := by (simp only [List.getElem?_toArray, List.getElem?_cons_succ, List.getElem?_cons_zero]; rfl))
  (hr : Region.ready md ops listed = [k] := by kernel_rfl) (hl : late.contains k = false := by kernel_rfl) : Late.wpAnyL P md ops Q S late (fuel + 1) listed a w :=
 Late.early hr hl ho h
theorem ltLast (k : Nat) {o : Oper} {fuel : Nat} {listed : Array Bool} {a : Act} {w : World}
  (h : ∀ K' : Act → World → Prop, Shut (∀ a w, True → (True → wpAnyH P md ops Q (fun _ => True) fuel (listed.setIfInBounds k true) a w) → K' a w) → if Region.wanted o (yielded ops a.tmps) = true then Oper.wp P o a w K' Q else K' (a.put o.dst undef) w)
  (ho : ops[k]? = some o := by (simp only [List.getElem?_toArray, List.getElem?_cons_succ, List.getElem?_cons_zero]; rfl))
  (hr : Region.ready md ops listed = [k] := by kernel_rfl) (hl : late.contains k = true := by kernel_rfl) : Late.wpAnyL P md ops Q S late (fuel + 1) listed a w :=
 Late.last hr hl ho h
end
end Go.Proofs.YtdbgaccnejffpaaGreatDoor

namespace Go.Proofs.YtdbgaccnejffpaaGreatDoor.Ints
open Go.RowKit
def Rd (k : IntKind) (w : World) (A : Option Addr) (n : Nat) (zs : List Int) : Prop :=
 zs.length = n ∧ (∀ j, j < n → (Lit.int k (zs[j]?.getD 0)).wf = true) ∧
  (0 < n → ∃ b off, A = some ⟨b, off, none⟩ ∧ ∀ j, j < n → w.cell? ⟨b, off + j, none⟩ = some (.int k (zs[j]?.getD 0)))
theorem wf_u16 {x : Int} (h : (Lit.int .u16 x).wf = true) : 0 ≤ x ∧ x ≤ 65535 := by
 simp [Lit.wf, IntKind.min, IntKind.max, IntKind.signed, IntKind.bits] at h
 omega
theorem wf_u64 {x : Int} (h : (Lit.int .u64 x).wf = true) : 0 ≤ x ∧ x ≤ 18446744073709551615 := by
 simp [Lit.wf, IntKind.min, IntKind.max, IntKind.signed, IntKind.bits] at h
 omega
theorem wf_i64 {x : Int} (h : (Lit.int .i64 x).wf = true) : -9223372036854775808 ≤ x ∧ x ≤ 9223372036854775807 := by
 simp [Lit.wf, IntKind.min, IntKind.max, IntKind.signed, IntKind.bits] at h
 omega
theorem take_snoc (l : List Int) (k : Nat) (h : k < l.length) : l.take (k + 1) = l.take k ++ [l[k]?.getD 0] := by
 rw [List.take_succ_eq_append_getElem h]; simp [List.getElem?_eq_getElem h]
section
variable {k : IntKind} {w w' : World} {A : Option Addr} {n : Nat} {zs : List Int}
theorem Rd.len (h : Rd k w A n zs) : zs.length = n := h.1
theorem Rd.wf (h : Rd k w A n zs) : ∀ j, j < n → (Lit.int k (zs[j]?.getD 0)).wf = true := h.2.1
theorem Rd.cell (h : Rd k w A n zs) : 0 < n → ∃ b off, A = some ⟨b, off, none⟩ ∧ ∀ j, j < n → w.cell? ⟨b, off + j, none⟩ = some (.int k (zs[j]?.getD 0)) := h.2.2
theorem Rd.u64 (h : Rd .u64 w A n zs) : ∀ j, j < n → 0 ≤ zs[j]?.getD 0 ∧ zs[j]?.getD 0 ≤ 18446744073709551615 := fun j hj => wf_u64 (h.wf j hj)
theorem Rd.nil (k : IntKind) (w : World) (A : Option Addr) : Rd k w A 0 [] := ⟨rfl, fun j h => by omega, fun h => by omega⟩
theorem Rd.keep (h : Rd k w A n zs) (hk : ∀ p u, A.map (·.block) = some p.block → w.cell? p = some u → w'.cell? p = some u) : Rd k w' A n zs :=
 ⟨h.1, h.2.1, fun h0 => by
  obtain ⟨b, off, rfl, hc⟩ := h.2.2 h0
  exact ⟨b, off, rfl, fun j hj => hk _ _ rfl (hc j hj)⟩⟩
theorem Rd.below (h : Rd k w A n zs) (hb : Below w.heap.size w w') : Rd k w' A n zs :=
 h.keep fun p _ _ hu => (hb.cell (World.block_lt_of_cell? w p hu)).trans hu
theorem Rd.grown {row : Option Nat} (h : Rd k w A n zs) (hg : w.grownBy w' row) (hne : ∀ a, A = some a → some a.block ≠ row) : Rd k w' A n zs :=
 h.keep fun p u hp hu => hg.cell hu (by
  cases A with
  | none => simp at hp
  | some a => have := hne a rfl; simp at hp; rw [← hp]; exact this)
theorem Rd.alloc (h : Rd k w A n zs) (o : Obj) : Rd k (w.alloc o) A n zs := h.keep fun _ _ _ hu => Lib.cell?_alloc_marked o hu
theorem Rd.drew (h : Rd k w A n zs) : Rd k w.drew A n zs := h
theorem Rd.drop {b off : Nat} (h : Rd k w (some ⟨b, off, none⟩) n zs) {m : Nat} (hm : m ≤ n) : Rd k w (some ⟨b, off + m, none⟩) (n - m) (zs.drop m) :=
 ⟨by rw [List.length_drop, h.1], fun j hj => by rw [List.getElem?_drop]; exact h.2.1 _ (by omega), fun h0 => by
  obtain ⟨b', off', e, hc⟩ := h.2.2 (by omega)
  simp only [Option.some.injEq, Addr.mk.injEq, and_true] at e
  obtain ⟨rfl, rfl⟩ := e
  exact ⟨_, _, rfl, fun j hj => by rw [List.getElem?_drop, Nat.add_assoc]; exact hc _ (by omega)⟩⟩
theorem rd_of {len cap : Nat} (h : (A = none ∧ len = 0 ∧ cap = 0 ∧ zs = []) ∨
      ∃ x, A = some x ∧ len ≤ cap ∧ cap ≤ maxLen ∧ zs.length = cap ∧ (∀ i, i < zs.length → w.cell? (x.add i) = some (.int k (zs.getD i 0))) ∧ ∀ n ∈ zs, (Lit.int k n).wf = true) :
  Rd k w A len (zs.take len) ∧ len ≤ cap ∧ cap ≤ maxLen := by
 rcases h with ⟨rfl, rfl, rfl, rfl⟩ | ⟨x, rfl, hl, hm, hz, hcell, hwf⟩
 ·exact ⟨Rd.nil _ _ _, Nat.le_refl _, by decide⟩
 ·have e : ∀ j, j < len → (zs.take len)[j]?.getD 0 = zs.getD j 0 := fun j hj => by
   rw [List.getElem?_take_of_lt hj]; simp [List.getD]
  refine ⟨⟨by rw [List.length_take]; omega, fun j hj => ?_, fun h0 => ?_⟩, hl, hm⟩
  ·rw [e j hj]
   have hj' : j < zs.length := by omega
   have := hwf zs[j] (List.getElem_mem hj')
   simpa only [List.getD, List.getElem?_eq_getElem hj', Option.getD_some] using this
  ·obtain ⟨b, off, spot⟩ := x
   have hc := hcell 0 (by omega)
   have hspot : spot = none := by simpa [Addr.add] using World.cell?_spot hc
   subst hspot
   refine ⟨b, off, rfl, fun j hj => ?_⟩
   rw [e j hj, ← hcell j (by omega)]
   congr 1
   unfold Addr.add
   split <;> simp_all
theorem Rd.lit (w : World) (T : TypeId) (fr : Nat × Nat) (zs : List Int) (hz : ∀ z ∈ zs, (Lit.int k z).wf = true) :
  Rd k (w.alloc (.cells (zs.map (Value.int k)).toArray T fr)) (some ⟨w.heap.size, 0, none⟩) zs.length zs :=
 ⟨rfl, fun j hj => by rw [List.getElem?_eq_getElem hj]; exact hz _ (List.getElem_mem hj), fun _ => ⟨_, _, rfl, fun j hj => by
  rw [Nat.zero_add, cell_of_row _ w.heap.size j _ T fr (heap_alloc_new w _)]
  simp [List.getElem?_eq_getElem hj]⟩⟩
theorem Rd.own {base c : Nat} {e : TypeId} (h : w.ownsRow base e 1 (.slice A n c) n (zs.map (Value.int k))) (hz : ∀ z ∈ zs, (Lit.int k z).wf = true) : Rd k w A n zs := by
 have hl : zs.length = n := by simpa using h.1
 refine ⟨hl, fun j hj => ?_, fun h0 => ?_⟩
 ·rw [List.getElem?_eq_getElem (by omega)]; exact hz _ (List.getElem_mem _)
 ·have h' := h
  rcases h.2 with ⟨_, h2⟩ | ⟨g, cap, cur, h2, _⟩
  ·omega
  ·injection h2 with h3 _ h4
   subst h3; subst h4
   refine ⟨_, _, rfl, fun j hj => ?_⟩
   rw [Nat.zero_add, h'.cellAt j (by omega)]
   have hj' : j < zs.length := by omega
   simp [List.getElem?_eq_getElem hj']
end
section
variable {w : World} {base : Nat} {e : TypeId} {v : Value} {n : Nat} {xs : List Value} {k : IntKind} {zs : List Int}
theorem own_form (h : w.ownsRow base e 1 v n xs) (hn : 0 < n) : ∃ g cap, v = .slice (some ⟨g, 0, none⟩) n cap ∧ base ≤ g ∧ g < w.heap.size ∧ n ≤ cap ∧ cap ≤ maxLen := by
 have hlt := h.lt
 rcases h.2 with ⟨_, h2⟩ | ⟨g, cap, cur, rfl, _, _, h3, h4, _⟩
 ·omega
 ·exact ⟨g, cap, rfl, (hlt g rfl).1, (hlt g rfl).2, h3, h4⟩
theorem own_slice (h : w.ownsRow base e 1 v n xs) : ∃ A c, v = .slice A n c ∧ n ≤ c ∧ c ≤ maxLen ∧ (A = none → c = 0) ∧ (∀ a, A = some a → base ≤ a.block ∧ a.block < w.heap.size) := by
 have hlt := h.lt
 rcases h.2 with ⟨rfl, rfl⟩ | ⟨g, cap, cur, rfl, _, _, h3, h4, _⟩
 ·exact ⟨none, 0, rfl, Nat.le_refl _, (by decide), (fun _ => rfl), (fun a h => by cases h)⟩
 ·exact ⟨_, cap, rfl, h3, h4, (fun h => by cases h), (fun a h => by injection h with h; subst h; exact hlt g rfl)⟩
theorem own_cell {g cap : Nat} (h : w.ownsRow base e 1 (.slice (some ⟨g, 0, none⟩) n cap) n (zs.map (Value.int k))) {j : Nat} (hj : j < n) : w.cell? ⟨g, j, none⟩ = some (.int k (zs[j]?.getD 0)) := by
 have hl : zs.length = n := by simpa using h.1
 rw [h.cellAt j (by omega)]
 have hj' : j < zs.length := by omega
 simp [List.getElem?_eq_getElem hj']
theorem own_set {g cap : Nat} (h : w.ownsRow base e 1 (.slice (some ⟨g, 0, none⟩) n cap) n (zs.map (Value.int k))) (j : Nat) (y : Int) :
  (w.setCell ⟨g, j, none⟩ (.int k y)).ownsRow base e 1 (.slice (some ⟨g, 0, none⟩) n cap) n ((zs.set j y).map (Value.int k)) := by
 rw [List.map_set]; exact (h.stored j _).1
theorem Rd.all {A : Option Addr} (h : Rd k w A n zs) : ∀ z ∈ zs, (Lit.int k z).wf = true := by
 intro z hz
 obtain ⟨j, hj, rfl⟩ := List.getElem_of_mem hz
 have := h.wf j (by have := h.len; omega)
 rwa [List.getElem?_eq_getElem hj] at this
end
section
variable {P : Program} {w : World}
theorem one_cell (k : IntKind) (zs : List Int) : ∀ u ∈ zs.map (Value.int k), u.oneCell' = true := by
 intro u hu
 obtain ⟨z, _, rfl⟩ := List.mem_map.1 hu
 rfl
theorem run_append_ints (k : IntKind) (base : Nat) (t ty e : TypeId) (i : TypeInfo) (bytes : Nat) (ht : P.underlying t = some (.slice e)) (hi : P.info? e = some i) (hz : i.zero = some (.int k 0))
  (hsize : i.size = 1) (hby : i.bytes = bytes) (v : Value) (n : Nat) (zs : List Int) (hown : w.ownsRow base e 1 v n (zs.map (Value.int k)))
  (A : Option Addr) (m c : Nat) (ys : List Int) (hr : Rd k w A m ys) (h63 : n + m ≤ maxLen) (hbytes : (n + m) * bytes ≤ 140737488355328) (hbase : base ≤ w.heap.size) :
  ∃ v' w', (Builtin.append_ #[t, t] ty #[v, .slice A m c]).run P w = .ok v' w' ∧ w'.ownsRow base e 1 v' (n + m) ((zs ++ ys).map (Value.int k)) ∧ w.grownBy w' v.ownBlock := by
 have hone := one_cell k ys
 cases A with
 | some ad =>
  have hnews : ∀ j u, (ys.map (Value.int k))[j]? = some u → w.cell? (ad.add j) = some u := fun j u hu => by
   have hj : j < ys.length := by
    rcases Nat.lt_or_ge j ys.length with h | h
    ·exact h
    ·simp [List.getElem?_eq_none h] at hu
   obtain ⟨b, off, e, hc⟩ := hr.cell (by have := hr.len; omega)
   injection e with e
   subst e
   have h1 := hc j (by have := hr.len; omega)
   have h2 : (⟨b, off, none⟩ : Addr).add j = ⟨b, off + j, none⟩ := by unfold Addr.add; split <;> simp_all
   rw [h2, h1]
   simpa [List.getElem?_eq_getElem hj] using hu
  obtain ⟨v', w', hrun, ho, hg, _⟩ := run_append_own (P := P) w base t ty e i (.int k 0) 1 bytes ht hi hz hsize hby rfl (by decide) v n _ hown ad m c (ys.map (Value.int k)) (by simp [hr.len]) hnews hone h63 hbytes hbase
  exact ⟨v', w', hrun, by rw [List.map_append]; exact ho, hg⟩
 | none =>
  have hm : m = 0 := by
   rcases Nat.eq_zero_or_pos m with h | h
   ·exact h
   ·obtain ⟨_, _, h', _⟩ := hr.cell h
    cases h'
  subst hm
  have hy : ys = [] := List.eq_nil_of_length_eq_zero hr.len
  subst hy
  refine ⟨v, w, ?_, by simpa using hown, World.grownBy.refl w _⟩
  rcases hown.2 with ⟨rfl, rfl⟩ | ⟨g, cap, cur, rfl, _, _, hnc, _⟩
  ·simp [Builtin.append_, run_underlying ht, sizeOf, typeInfo, hi, Builtin.lenOf, Builtin.firstCells]
  ·simp [Builtin.append_, run_underlying ht, sizeOf, typeInfo, hi, Builtin.lenOf, Builtin.firstCells, hnc, storeCells]
theorem wpList_append_ints {ops : Array Oper} {rest : List Oper} {o : Oper} {a : Act} {Q : Exit → Act → World → Prop} (hgd : o.guard = none) (s x : Operand) (t : TypeId)
  (ho : o.op = .call { callee := .builtin .append, args := #[s, x], argTypes := #[t, t] }) (k : IntKind) (base : Nat) (e : TypeId) (i : TypeInfo) (bytes : Nat)
  (ht : P.underlying t = some (.slice e)) (hi : P.info? e = some i) (hz : i.zero = some (.int k 0)) (hsize : i.size = 1) (hby : i.bytes = bytes)
  (v : Value) (n : Nat) (zs : List Int) (hs : a.eval s = v) (hown : w.ownsRow base e 1 v n (zs.map (Value.int k)))
  (A : Option Addr) (m c : Nat) (ys : List Int) (hx : a.eval x = .slice A m c) (hr : Rd k w A m ys)
  (h63 : n + m ≤ maxLen) (hbytes : (n + m) * bytes ≤ 140737488355328) (hbase : base ≤ w.heap.size)
  (h : ∀ v' w', w'.ownsRow base e 1 v' (n + m) ((zs ++ ys).map (Value.int k)) → w.grownBy w' v.ownBlock → wpList P ops Q rest (a.put o.dst v') w') : wpList P ops Q (o :: rest) a w := by
 refine wpList_plain hgd fun K hK => ?_
 obtain ⟨v', w', hrun, h1, h2⟩ := run_append_ints (P := P) k base t o.type e i bytes ht hi hz hsize hby v n zs hown A m c ys hr h63 hbytes hbase
 unfold Oper.wp
 simp [execOp, ho, resolve, invoke, builtin, hs, hx, hrun, Result.andThen]
 exact hK _ _ (h v' w' h1 h2)
end
theorem quiet_more {P : Program} {f : FuncId} {args : Array Value} {w W : World} {v : Value} (hW : ∃ k, W = w.drewN k)
  (h : Calls P f args W fun e w' => e = .returned v ∧ ∃ q, w' = W.drewN q) : Calls P f args W fun e w'' => e = .returned v ∧ ∃ m, w'' = w.drewN m :=
 h.mono fun _ _ ⟨he, q, hm⟩ => ⟨he, by obtain ⟨k, hk⟩ := hW; exact ⟨k + q, by rw [hm, hk, World.drewN_drewN]⟩⟩
end Go.Proofs.YtdbgaccnejffpaaGreatDoor.Ints

namespace Go.Proofs.YtdbgaccnejffpaaGreatDoor.Paths
def ChainN (R : Nat → Nat → Prop) : Nat → Nat → Nat → Prop
 | 0, i, j => i = j
 | m + 1, i, j => i = j ∨ ∃ k, R i k ∧ ChainN R m k j
def Chain (R : Nat → Nat → Prop) (i j : Nat) : Prop := ∃ m, ChainN R m i j
theorem ChainN.refl (R : Nat → Nat → Prop) (m i : Nat) : ChainN R m i i := by cases m with
 | zero => rfl
 | succ m => exact .inl rfl
theorem ChainN.more {R : Nat → Nat → Prop} {m i j : Nat} (h : ChainN R m i j) : ChainN R (m + 1) i j := by
 induction m generalizing i with
 | zero => exact .inl h
 | succ m ih =>
  rcases h with h | ⟨k, h1, h2⟩
  ·exact .inl h
  ·exact .inr ⟨k, h1, ih h2⟩
theorem ChainN.mono {R : Nat → Nat → Prop} {m m' i j : Nat} (h : ChainN R m i j) (hm : m ≤ m') : ChainN R m' i j := by
 induction m' with
 | zero => obtain rfl : m = 0 := by omega
           exact h
 | succ q ih =>
  rcases Nat.lt_or_ge q m with h1 | h1
  ·obtain rfl : m = q + 1 := by omega
   exact h
  ·exact (ih h1).more
theorem ChainN.add {R : Nat → Nat → Prop} {m q i k j : Nat} (h : ChainN R m i k) (h2 : ChainN R q k j) : ChainN R (m + q) i j := by
 induction m generalizing i with
 | zero =>
  have h : i = k := h
  subst h
  rw [Nat.zero_add]
  exact h2
 | succ m ih =>
  rcases h with h | ⟨p, h1, h3⟩
  ·subst h
   exact h2.mono (by omega)
  ·rw [show m + 1 + q = (m + q) + 1 by omega]
   exact .inr ⟨p, h1, ih h3⟩
theorem ChainN.split {R : Nat → Nat → Prop} {m q i j : Nat} (h : ChainN R (m + q) i j) : ∃ k, ChainN R m i k ∧ ChainN R q k j := by
 induction m generalizing i with
 | zero => exact ⟨i, rfl, by rwa [Nat.zero_add] at h⟩
 | succ m ih =>
  rw [show m + 1 + q = (m + q) + 1 by omega] at h
  rcases h with h | ⟨p, h1, h2⟩
  ·subst h
   exact ⟨i, ChainN.refl R _ i, ChainN.refl R _ i⟩
  ·obtain ⟨k, h3, h4⟩ := ih h2
   exact ⟨k, .inr ⟨p, h1, h3⟩, h4⟩
theorem ChainN.le {R : Nat → Nat → Prop} (hR : ∀ i j, R i j → i ≤ j) {m i j : Nat} (h : ChainN R m i j) : i ≤ j := by
 induction m generalizing i with
 | zero => exact Nat.le_of_eq h
 | succ m ih =>
  rcases h with h | ⟨k, h1, h2⟩
  ·exact Nat.le_of_eq h
  ·exact Nat.le_trans (hR i k h1) (ih h2)
theorem ChainN.short {R : Nat → Nat → Prop} (hR : ∀ i j, R i j → i ≤ j) {m i j : Nat} (h : ChainN R m i j) : ChainN R (j - i) i j := by
 induction m generalizing i with
 | zero =>
  have h : i = j := h
  subst h
  exact ChainN.refl R _ _
 | succ m ih =>
  rcases h with h | ⟨k, h1, h2⟩
  ·subst h
   exact ChainN.refl R _ _
  ·have hk := hR i k h1
   have hj := h2.le hR
   have h3 := ih h2
   rcases Nat.lt_or_ge i k with h4 | h4
   ·have h5 : ChainN R ((j - k) + 1) i j := .inr ⟨k, h1, h3⟩
    exact h5.mono (by omega)
   ·obtain rfl : i = k := by omega
    exact h3
theorem chain_refl (R : Nat → Nat → Prop) (i : Nat) : Chain R i i := ⟨0, rfl⟩
theorem chain_one {R : Nat → Nat → Prop} {i j : Nat} (h : R i j) : Chain R i j := ⟨1, .inr ⟨j, h, rfl⟩⟩
theorem chain_trans {R : Nat → Nat → Prop} {i k j : Nat} (h : Chain R i k) (h2 : Chain R k j) : Chain R i j := by
 obtain ⟨m, h⟩ := h
 obtain ⟨q, h2⟩ := h2
 exact ⟨m + q, h.add h2⟩
theorem chain_le {R : Nat → Nat → Prop} (hR : ∀ i j, R i j → i ≤ j) {i j : Nat} (h : Chain R i j) : i ≤ j := h.elim fun _ h => h.le hR
theorem chain_mono {R R' : Nat → Nat → Prop} (h : ∀ i j, R i j → R' i j) {i j : Nat} (hc : Chain R i j) : Chain R' i j := by
 obtain ⟨m, hc⟩ := hc
 refine ⟨m, ?_⟩
 induction m generalizing i with
 | zero => exact hc
 | succ m ih =>
  rcases hc with e | ⟨k, h1, h2⟩
  ·exact .inl e
  ·exact .inr ⟨k, h i k h1, ih h2⟩
abbrev Tb := Nat → Nat → Bool
def Tells (n : Nat) (m : Tb) (R : Nat → Nat → Prop) : Prop := ∀ i j, i < n → j < n → (m i j = true ↔ R i j)
def On (n : Nat) (R : Nat → Nat → Prop) : Prop := ∀ i j, R i j → i < n ∧ j < n
def prodT (n : Nat) (a b : Tb) : Tb := fun i j => (List.range n).any fun k => a i k && b k j
def altT (a b : Tb) : Tb := fun i j => a i j || b i j
def idT (a : Tb) : Tb := fun i j => a i j || decide (i = j)
def sqT (n : Nat) : Nat → Nat → Tb → Tb
 | 0, _, m => m
 | f + 1, k, m => if k < n then sqT n f (k * 2) (prodT n m m) else m
theorem prod_tells {n : Nat} {a b : Tb} {A B : Nat → Nat → Prop} (ha : Tells n a A) (hb : Tells n b B) (hA : On n A) : Tells n (prodT n a b) (fun i j => ∃ k, A i k ∧ B k j) := by
 intro i j hi hj
 unfold prodT
 rw [List.any_eq_true]
 constructor
 ·rintro ⟨k, hk, h⟩
  rw [List.mem_range] at hk
  rw [Bool.and_eq_true] at h
  exact ⟨k, (ha i k hi hk).1 h.1, (hb k j hk hj).1 h.2⟩
 ·rintro ⟨k, h1, h2⟩
  have hk := (hA i k h1).2
  exact ⟨k, List.mem_range.2 hk, by rw [Bool.and_eq_true]; exact ⟨(ha i k hi hk).2 h1, (hb k j hk hj).2 h2⟩⟩
theorem chainN_on {n : Nat} {R : Nat → Nat → Prop} (hR : On n R) {m i j : Nat} (h : ChainN R m i j) (hi : i < n) : j < n := by
 induction m generalizing i with
 | zero => have h : i = j := h
           omega
 | succ m ih =>
  rcases h with h | ⟨k, h1, h2⟩
  ·omega
  ·exact ih h2 (hR i k h1).2
theorem sq_tells {n : Nat} {R : Nat → Nat → Prop} (hR : On n R) (hF : ∀ i j, R i j → i ≤ j) : ∀ (f k : Nat) (m : Tb), 0 < k → Tells n m (ChainN R k) → n < k * 2 ^ f + 1 → Tells n (sqT n f k m) (Chain R) := by
 intro f
 induction f with
 | zero =>
  intro k m hk hm hn i j hi hj
  rw [sqT, hm i j hi hj]
  exact ⟨fun h => ⟨k, h⟩, fun ⟨q, h⟩ => (h.short hF).mono (by rw [Nat.pow_zero, Nat.mul_one] at hn; omega)⟩
 | succ f ih =>
  intro k m hk hm hn
  rw [sqT]
  split
  ·rename_i hlt
   refine ih (k * 2) (prodT n m m) (by omega) ?_ (by rw [Nat.pow_succ, Nat.mul_comm (2 ^ f) 2, ← Nat.mul_assoc] at hn; exact hn)
   intro i j hi hj
   unfold prodT
   rw [List.any_eq_true]
   constructor
   ·rintro ⟨q, hq, h⟩
    rw [List.mem_range] at hq
    rw [Bool.and_eq_true] at h
    rw [Nat.mul_two]
    exact ((hm i q hi hq).1 h.1).add ((hm q j hq hj).1 h.2)
   ·intro h
    rw [Nat.mul_two] at h
    obtain ⟨q, h1, h2⟩ := h.split
    have hq := chainN_on hR h1 hi
    exact ⟨q, List.mem_range.2 hq, by rw [Bool.and_eq_true]; exact ⟨(hm i q hi hq).2 h1, (hm q j hq hj).2 h2⟩⟩
  ·rename_i hge
   intro i j hi hj
   rw [hm i j hi hj]
   exact ⟨fun h => ⟨k, h⟩, fun ⟨q, h⟩ => (h.short hF).mono (by omega)⟩
theorem id_tells {n : Nat} {m : Tb} {R : Nat → Nat → Prop} (h : Tells n m R) : Tells n (idT m) (ChainN R 1) := by
 intro i j hi hj
 unfold idT
 rw [Bool.or_eq_true, decide_eq_true_eq, h i j hi hj]
 constructor
 ·rintro (h | h)
  ·exact .inr ⟨j, h, rfl⟩
  ·exact .inl h
 ·rintro (h | ⟨k, h1, h2⟩)
  ·exact .inr h
  ·have h2 : k = j := h2
   subst h2
   exact .inl h1
end Go.Proofs.YtdbgaccnejffpaaGreatDoor.Paths
