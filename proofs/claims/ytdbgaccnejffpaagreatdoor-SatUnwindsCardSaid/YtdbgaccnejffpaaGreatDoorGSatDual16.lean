/-
  Traces in memory: events and rows of events of the call's own; what events that came in read as. By an AI agent.
  Ids as plain lists: which may be. By an AI agent.
  Traces as plain lists: what may be, what holds, beginnings, fronts, an event added. By an AI agent.
  Operations of a drawn region that are not wanted, a row of them passed at once. By an AI agent.
  What the landed judge looks at; the distance of two points (stage 15). By an AI agent.
-/
import Derived.Test.YtdbgaccnejffpaaGreatDoorGSatDual15
import Derived.Test.YtdbgaccnejffpaaGreatDoorGSatDual4
import Derived.Deep.RegionHeld3
import Derived.Test.YtdbgaccnejffpaaGreatDoorGSatDual1
import Derived.Test.YtdbgaccnejffpaaGreatDoorGSatDual3
import Derived.Test.YtdbgaccnejffpaaGreatDoorGSatDual14
namespace Go.Proofs.YtdbgaccnejffpaaGreatDoor.Trace
open Go.RowKit Go.ChangeShapes Go.WideShapes Go.Deep Go.Proofs.YtdbgaccnejffpaaGreatDoor.Ints Go.Proofs.YtdbgaccnejffpaaGreatDoor.Mem
section
variable {H : Type} {enc : TypeId × Value → H} {w : World}
structure Tr where
 names : List (List UInt8)
 events : List Ev
deriving DecidableEq
structure TrOk (S : Nat → Prop) (w : World) (NA : Option Addr) (nn nc : Nat) (EA : Option Addr) (ne ec : Nat) (t : Tr) : Prop where
 nlen : t.names.length = nn
 elen : t.events.length = ne
 names : Strs w NA t.names
 sizes : ∀ s ∈ t.names, s.length ≤ maxLen
 evs : Evs S w EA t.events
 ncap : nn ≤ nc ∧ nc ≤ maxLen
 ecap : ne ≤ ec ∧ ec ≤ maxLen
theorem TrOk.below {S : Nat → Prop} {w w' : World} {NA EA : Option Addr} {nn nc ne ec : Nat} {t : Tr} (h : TrOk S w NA nn nc EA ne ec t) (hb : Below w.heap.size w w') : TrOk S w' NA nn nc EA ne ec t :=
 ⟨h.1, h.2, h.3.below hb, h.4, h.5.below hb, h.6, h.7⟩
end
abbrev SEv := Ev × Option Addr × Nat
def cellsS (s : SEv) : List Value := [.int .u64 s.1.time, .slice s.2.1 s.1.ids.length s.2.2]
def rowS (l : List SEv) : List Value := l.flatMap cellsS
def KidOk (S : Nat → Prop) (w : World) (s : SEv) : Prop := EvOk w s.1 s.2.1 s.2.2 ∧ ∀ a, s.2.1 = some a → 0 < s.1.ids.length → S a.block
theorem KidOk.keep {S : Nat → Prop} {w w' : World} {s : SEv} (h : KidOk S w s) (hk : ∀ p u, S p.block → w.cell? p = some u → w'.cell? p = some u) : KidOk S w' s := by
 obtain ⟨⟨h5, h10, h11, h12⟩, h14⟩ := h
 refine ⟨⟨h5, ⟨h10.1, h10.2.1, fun h0 => ?_⟩, h11, h12⟩, h14⟩
 obtain ⟨b', off, e, hc⟩ := h10.2.2 h0
 exact ⟨b', off, e, fun j hj => hk ⟨b', off + j, none⟩ _ (h14 ⟨b', off, none⟩ e h0) (hc j hj)⟩
theorem KidOk.mono {S S' : Nat → Prop} {w : World} {s : SEv} (h : KidOk S w s) (hs : ∀ b, b < w.heap.size → S b → S' b) : KidOk S' w s := by
 obtain ⟨⟨h5, h10, h11, h12⟩, h14⟩ := h
 refine ⟨⟨h5, h10, h11, h12⟩, fun a e h0 => ?_⟩
 obtain ⟨b', off, e', hc⟩ := h10.2.2 h0
 rw [e] at e'
 injection e' with e'
 subst e'
 exact hs _ (World.block_lt_of_cell? w _ (hc 0 h0)) (h14 _ e h0)
theorem KidOk.below {S : Nat → Prop} {w w' : World} {s : SEv} (h : KidOk S w s) (hb : Below w.heap.size w w') : KidOk S w' s :=
 h.keep fun p _ _ hp => (hb.cell (World.block_lt_of_cell? w p hp)).trans hp
theorem rowS_len (l : List SEv) : (rowS l).length = l.length * 2 := by
 induction l with
 | nil => rfl
 | cons t l ih =>
  simp only [rowS, List.flatMap_cons, List.length_append, List.length_cons] at ih ⊢
  rw [ih]
  show 2 + l.length * 2 = (l.length + 1) * 2
  omega
theorem rowS_append (l m : List SEv) : rowS (l ++ m) = rowS l ++ rowS m := List.flatMap_append
theorem rowS_at : ∀ (l : List SEv) (j : Nat) (t : SEv), l[j]? = some t → ∀ f, f < 2 → (rowS l)[2 * j + f]? = (cellsS t)[f]?
 | [], j, t, h, _, _ => by simp at h
 | x :: l, 0, t, h, f, hf => by
  simp only [List.getElem?_cons_zero, Option.some.injEq] at h
  subst h
  show (cellsS x ++ rowS l)[2 * 0 + f]? = _
  rw [Nat.mul_zero, Nat.zero_add, List.getElem?_append_left (by exact hf)]
 | x :: l, j + 1, t, h, f, hf => by
  have ih := rowS_at l j t (by simpa using h) f hf
  show (cellsS x ++ rowS l)[2 * (j + 1) + f]? = _
  rw [List.getElem?_append_right (by show 2 ≤ _; omega), ← ih]
  congr 1
  show 2 * (j + 1) + f - 2 = _
  omega
theorem cellsS_one (t : SEv) : ∀ u ∈ cellsS t, u.oneCell' = true := by
 intro u hu
 simp only [cellsS, List.mem_cons, List.not_mem_nil, or_false] at hu
 rcases hu with rfl | rfl <;> rfl
theorem rowS_one (l : List SEv) : ∀ u ∈ rowS l, u.oneCell' = true := by
 intro u hu
 obtain ⟨s, -, hs⟩ := List.mem_flatMap.1 hu
 exact cellsS_one s u hs
def OwnEvs (S : Nat → Prop) (w : World) (base : Nat) (v : Value) (l : List SEv) : Prop :=
 w.ownsRow base 47 2 v l.length (rowS l) ∧ ∀ s ∈ l, KidOk (fun b => S b ∧ some b ≠ v.ownBlock) w s
theorem OwnEvs.nil (S : Nat → Prop) (w : World) (base : Nat) : OwnEvs S w base (.slice none 0 0) [] := ⟨World.ownsRow_nil _ _ _ _, fun s hs => by simp at hs⟩
theorem OwnEvs.keep {S : Nat → Prop} {w w' : World} {base : Nat} {v : Value} {l : List SEv} {row : Option Nat} (h : OwnEvs S w base v l) (hg : w.grownBy w' row) (hne : v.ownBlock = none ∨ v.ownBlock ≠ row) (hs : ∀ b, S b → some b ≠ row) : OwnEvs S w' base v l :=
 ⟨h.1.kept hg hne, fun s hs' => (h.2 s hs').keep fun _ _ hp hc => hg.cell hc (hs _ hp.1)⟩
theorem OwnEvs.below {S : Nat → Prop} {w w' : World} {base : Nat} {v : Value} {l : List SEv} (h : OwnEvs S w base v l) (hb : Below w.heap.size w w') : OwnEvs S w' base v l :=
 ⟨below_row h.1 hb, fun s hs => (h.2 s hs).below hb⟩
theorem OwnEvs.reads {S : Nat → Prop} {w : World} {base : Nat} {v : Value} {l : List SEv} (h : OwnEvs S w base v l) (hS : ∀ b, base ≤ b → b < w.heap.size → S b) :
  ∃ A c, v = .slice A l.length c ∧ Evs S w A (l.map (·.1)) ∧ l.length ≤ c ∧ c ≤ maxLen := by
 obtain ⟨h1, h2⟩ := h
 have hlt := h1.lt
 have h1' := h1
 rcases h1.2 with ⟨rfl, h0⟩ | ⟨g, cap, cur, rfl, _, _, h3, h4, _⟩
 ·exact ⟨none, 0, by rw [h0], fun hp => by simp at hp; omega, by omega, by decide⟩
 ·refine ⟨_, cap, rfl, fun _ => ⟨g, 0, rfl, fun j n hj => ?_⟩, h3, h4⟩
  rw [List.getElem?_map] at hj
  obtain ⟨s, hs, rfl⟩ := Option.map_eq_some_iff.1 hj
  have hjl : j < l.length := (List.getElem?_eq_some_iff.1 hs).1
  have key : ∀ f, f < 2 → w.cell? ⟨g, 0 + 2 * j + f, none⟩ = (cellsS s)[f]? := fun f hf => by
   rw [Nat.zero_add, h1'.cellAt (2 * j + f) (by omega)]
   exact rowS_at l j s hs f hf
  obtain ⟨⟨k5, k10, k11, k12⟩, k14⟩ := h2 s (List.mem_of_getElem? hs)
  have hg := hlt g rfl
  exact ⟨key 0 (by omega), k5, s.2.1, s.2.2, key 1 (by omega), k10, k11, k12, hS _ hg.1 hg.2, fun a e h0 => (k14 a e h0).1⟩
theorem Evs.stored {S : Nat → Prop} {w : World} {A : Option Addr} {l : List Ev} (h : Evs S w A l) :
  ∃ σ : List SEv, σ.map (·.1) = l ∧ (∀ s ∈ σ, KidOk S w s) ∧ (0 < l.length → ∃ b off, A = some ⟨b, off, none⟩ ∧ S b ∧ ∀ (j : Nat) (s : SEv), σ[j]? = some s → ∀ f, f < 2 → w.cell? ⟨b, off + 2 * j + f, none⟩ = (cellsS s)[f]?) := by
 by_cases h0 : 0 < l.length
 ·obtain ⟨b, off, rfl, hn⟩ := h h0
  have one : ∀ (l' : List Ev) (i : Nat), (∀ j n, l'[j]? = some n → EvAt S w b (off + 2 * (i + j)) n) →
    ∃ σ : List SEv, σ.map (·.1) = l' ∧ (∀ s ∈ σ, KidOk S w s) ∧ ∀ (j : Nat) (s : SEv), σ[j]? = some s → ∀ f, f < 2 → w.cell? ⟨b, off + 2 * (i + j) + f, none⟩ = (cellsS s)[f]? := by
   intro l'
   induction l' with
   | nil => intro i _; exact ⟨[], rfl, fun s hs => by simp at hs, fun j s hs => by simp at hs⟩
   | cons n l' ih =>
    intro i hi
    obtain ⟨σ, e1, e2, e3⟩ := ih (i + 1) (fun j x hj => by rw [show i + 1 + j = i + (j + 1) by omega]; exact hi (j + 1) x (by simpa using hj))
    obtain ⟨x0, s0, K, c, x1, hK, hKc, hcK, hb, hKs⟩ := hi 0 n rfl
    refine ⟨(n, K, c) :: σ, by rw [List.map_cons, e1], fun s hs => ?_, fun j s hj f hf => ?_⟩
    ·rcases List.mem_cons.1 hs with rfl | hs
     ·exact ⟨⟨s0, hK, hKc, hcK⟩, hKs⟩
     ·exact e2 s hs
    ·cases j with
     | zero =>
      simp only [List.getElem?_cons_zero, Option.some.injEq] at hj
      subst hj
      match f, hf with
      | 0, _ => exact x0
      | 1, _ => exact x1
     | succ j =>
      rw [show i + (j + 1) = i + 1 + j by omega]
      exact e3 j s (by simpa using hj) f hf
  obtain ⟨σ, e1, e2, e3⟩ := one l 0 (fun j n hj => by rw [Nat.zero_add]; exact hn j n hj)
  obtain ⟨n, hn0⟩ : ∃ n, l[0]? = some n := ⟨_, List.getElem?_eq_getElem h0⟩
  obtain ⟨-, -, -, -, -, -, -, -, hb, -⟩ := hn 0 n hn0
  exact ⟨σ, e1, e2, fun _ => ⟨b, off, rfl, hb, fun j s hs f hf => by have := e3 j s hs f hf; rwa [Nat.zero_add] at this⟩⟩
 ·have : l = [] := List.eq_nil_of_length_eq_zero (by omega)
  subst this
  exact ⟨[], rfl, fun s hs => by simp at hs, fun h => absurd h h0⟩
theorem infoEvent : (Tryz.prog.info? 47).map (fun i => (i.zero, i.size, i.bytes)) = some (some (.agg #[.int .u64 0, .slice none 0 0]), 2, 32) := by kernel_rfl
theorem own_grown {S : Nat → Prop} {w1 w' : World} {base : Nat} {v v' : Value} {σ τ : List SEv} (h2 : ∀ s ∈ σ, KidOk (fun b => S b ∧ some b ≠ v.ownBlock) w1 s) (k2 : ∀ s ∈ τ, KidOk (fun b => S b ∧ some b ≠ v.ownBlock) w1 s)
  (hr : w'.ownsRow base 47 2 v' (σ ++ τ).length (rowS (σ ++ τ))) (hg : w1.grownBy w' v.ownBlock) (hat : v'.ownBlock = v.ownBlock ∨ v'.ownBlock = some w1.heap.size) : OwnEvs S w' base v' (σ ++ τ) := by
 refine ⟨hr, fun s hs => ?_⟩
 have h3 : KidOk (fun b => S b ∧ some b ≠ v.ownBlock) w1 s := (List.mem_append.1 hs).elim (h2 s) (k2 s)
 have h4 := (h3.mono (S' := fun b => (S b ∧ some b ≠ v.ownBlock) ∧ b < w1.heap.size) fun b hb hp => ⟨hp, hb⟩).keep (w' := w') fun _ _ hp hc => hg.cell hc hp.1.2
 exact h4.mono fun b _ hp => ⟨hp.1.1, by
  rcases hat with e | e
  ·rw [e]; exact hp.1.2
  ·rw [e]; intro e2; injection e2 with e2; omega⟩
section
variable {P : Program} {w : World}
theorem step_append_evs {ops : Array Oper} {o : Oper} {a : Act} {K : Act → World → Prop} {Q : Exit → Act → World → Prop} {E : Prop} (hgd : o.guard = none) (s x : Operand) (t : TypeId)
  (ho : o.op = .call { callee := .builtin .append, args := #[s, x], argTypes := #[t, t] }) (base : Nat) (i : TypeInfo) (z : Value)
  (ht : P.underlying t = some (.slice 47)) (hi : P.info? 47 = some i) (hz : i.zero = some z) (hsize : i.size = 2) (hby : i.bytes = 32) (hzs : z.cells.size = 2)
  (v : Value) (l : List SEv) (hs : a.eval s = v) (S : Nat → Prop) (hown : OwnEvs S w base v l)
  (A : Option Addr) (n c : Nat) (m : List Ev) (hm : m.length = n) (hx : a.eval x = .slice A n c) (hnd : Evs (fun b => S b ∧ some b ≠ v.ownBlock) w A m)
  (hl : l.length + n ≤ 4194304) (hbase : base ≤ w.heap.size)
  (h : ∀ v' w' τ, τ.map (·.1) = m → OwnEvs S w' base v' (l ++ τ) → w.grownBy w' v.ownBlock → (v'.ownBlock = v.ownBlock ∨ v'.ownBlock = some w.heap.size) → K (a.put o.dst v') w') :
  if Region.wanted o (yielded ops a.tmps) = true then Oper.wp P o a w K Q else E := by
 have hw : Region.wanted o (yielded ops a.tmps) = true := by simp [Region.wanted, hgd]
 rw [if_pos hw]
 obtain ⟨τ, e1, e2, e3⟩ := hnd.stored
 have hτ : τ.length = n := by rw [← hm, ← e1, List.length_map]
 cases A with
 | some ad =>
  have hnews : ∀ j u, (rowS τ)[j]? = some u → w.cell? (ad.add j) = some u := fun j u hu => by
   have hj : j < (rowS τ).length := (List.getElem?_eq_some_iff.1 hu).1
   rw [rowS_len] at hj
   obtain ⟨b, off, e, -, hc⟩ := e3 (by omega)
   injection e with e
   subst e
   have hq : j / 2 < τ.length := by omega
   have h1 := hc (j / 2) _ (List.getElem?_eq_getElem hq) (j % 2) (Nat.mod_lt _ (by decide))
   have h2 : (⟨b, off, none⟩ : Addr).add j = ⟨b, off + 2 * (j / 2) + j % 2, none⟩ := by
    have : off + j = off + 2 * (j / 2) + j % 2 := by omega
    rw [← this]
    unfold Addr.add; split <;> simp_all
   rw [h2, h1, ← rowS_at τ (j / 2) _ (List.getElem?_eq_getElem hq) (j % 2) (Nat.mod_lt _ (by decide)), ← hu]
   congr 1
   omega
  obtain ⟨v', w', hrun, h1, h2, -, h4⟩ := run_append_own_at (P := P) w base t o.type 47 i z 2 32 ht hi hz hsize hby hzs (by decide) v l.length (rowS l) hown.1 ad n c (rowS τ) (by rw [rowS_len, hτ]) hnews (rowS_one τ) (by have : maxLen = 9223372036854775807 := rfl; omega) (by omega) hbase
  unfold Oper.wp
  simp [execOp, ho, resolve, invoke, builtin, hs, hx, hrun, Result.andThen]
  refine h v' w' τ e1 (own_grown (w1 := w) hown.2 e2 ?_ h2 h4) h2 h4
  rw [rowS_append, List.length_append, hτ]
  exact h1
 | none =>
  have hn0 : n = 0 := by
   rcases Nat.eq_zero_or_pos n with h' | h'
   ·exact h'
   ·obtain ⟨_, _, e, _⟩ := e3 (by omega)
    cases e
  subst hn0
  have hτ0 : τ = [] := List.eq_nil_of_length_eq_zero hτ
  subst hτ0
  have hrun : (Builtin.append_ #[t, t] o.type #[v, .slice none 0 c]).run P w = .ok v w := by
   rcases hown.1.2 with ⟨rfl, -⟩ | ⟨g, cap, cur, rfl, _, _, hnc, _⟩
   ·simp [Builtin.append_, run_underlying ht, sizeOf, typeInfo, hi, Builtin.lenOf, Builtin.firstCells]
   ·simp [Builtin.append_, run_underlying ht, sizeOf, typeInfo, hi, Builtin.lenOf, Builtin.firstCells, hnc, storeCells]
  unfold Oper.wp
  simp [execOp, ho, resolve, invoke, builtin, hs, hx, hrun, Result.andThen]
  exact h v w [] e1 (by rw [List.append_nil]; exact hown) (World.grownBy.refl w _) (Or.inl rfl)
end
end Go.Proofs.YtdbgaccnejffpaaGreatDoor.Trace

namespace Go.Proofs.YtdbgaccnejffpaaGreatDoor.Trace
def IdGood (l : List Int) (props : Int) (i : Nat) : Prop := 0 ≤ l.getD i 0 ∧ l.getD i 0 < props ∧ (0 < i → l.getD (i - 1) 0 < l.getD i 0)
instance (l : List Int) (props : Int) (i : Nat) : Decidable (IdGood l props i) := by unfold IdGood; infer_instance
def idsOk (l : List Int) (props : Int) : Bool := decide (∀ i, i < l.length → IdGood l props i)
theorem ids_yes {l : List Int} {p : Int} (h : ∀ i, i < l.length → IdGood l p i) : idsOk l p = true := decide_eq_true h
theorem ids_no {l : List Int} {p : Int} {i : Nat} (hi : i < l.length) (h : ¬ IdGood l p i) : idsOk l p = false := decide_eq_false fun e => h (e i hi)
theorem good_more {p : Nat → Prop} {k : Nat} (h : ∀ i, i < k → p i) (hk : p k) : ∀ i, i < k + 1 → p i := fun i hi => by
 by_cases e : i = k
 ·exact e ▸ hk
 ·exact h i (by omega)
theorem idsOk_iff (l : List Int) (p : Int) : idsOk l p = true ↔ ∀ i, i < l.length → IdGood l p i := decide_eq_true_iff
end Go.Proofs.YtdbgaccnejffpaaGreatDoor.Trace

namespace Go.Proofs.YtdbgaccnejffpaaGreatDoor.Trace
open Go.Proofs.YtdbgaccnejffpaaGreatDoor.Lex (nameS)
def NameGood (l : List (List UInt8)) (i : Nat) : Prop := nameS (l.getD i []) = true ∧ l.getD i [] ∉ l.take i
instance (l : List (List UInt8)) (i : Nat) : Decidable (NameGood l i) := by unfold NameGood; infer_instance
def namesOk (l : List (List UInt8)) : Bool := decide (l.length ≤ 64 ∧ ∀ i, i < l.length → NameGood l i)
def EvGood (l : List Ev) (props : Int) (i : Nat) : Prop := idsOk (l.getD i noEv).ids props = true ∧ (0 < i → (l.getD (i - 1) noEv).time ≤ (l.getD i noEv).time)
instance (l : List Ev) (props : Int) (i : Nat) : Decidable (EvGood l props i) := by unfold EvGood; infer_instance
def evsOk (l : List Ev) (props : Int) : Bool := decide (∀ i, i < l.length → EvGood l props i)
def mayT (t : Tr) : Bool := namesOk t.names && evsOk t.events t.names.length
def holdsT (t : Tr) (i : Int) (s : List UInt8) : Bool :=
 mayT t && (decide (0 ≤ i ∧ i < t.events.length) && (decide (s ∈ t.names) && decide (((t.names.idxOf s : Nat) : Int) ∈ (t.events.getD i.toNat noEv).ids)))
theorem names_yes {l : List (List UInt8)} (h64 : l.length ≤ 64) (h : ∀ i, i < l.length → NameGood l i) : namesOk l = true := decide_eq_true ⟨h64, h⟩
theorem names_no {l : List (List UInt8)} {i : Nat} (hi : i < l.length) (h : ¬ NameGood l i) : namesOk l = false := decide_eq_false fun e => h (e.2 i hi)
theorem names_long {l : List (List UInt8)} (h : 64 < l.length) : namesOk l = false := decide_eq_false fun e => by have := e.1; omega
theorem evs_yes {l : List Ev} {p : Int} (h : ∀ i, i < l.length → EvGood l p i) : evsOk l p = true := decide_eq_true h
theorem evs_no {l : List Ev} {p : Int} {i : Nat} (hi : i < l.length) (h : ¬ EvGood l p i) : evsOk l p = false := decide_eq_false fun e => h (e i hi)
theorem evsOk_iff (l : List Ev) (p : Int) : evsOk l p = true ↔ ∀ i, i < l.length → EvGood l p i := decide_eq_true_iff
theorem mayT_iff (t : Tr) : mayT t = true ↔ namesOk t.names = true ∧ evsOk t.events t.names.length = true := by unfold mayT; rw [Bool.and_eq_true]
end Go.Proofs.YtdbgaccnejffpaaGreatDoor.Trace

namespace Go.Proofs.YtdbgaccnejffpaaGreatDoor.Skips
open Go
section
variable {P : Program} {ops : Array Oper} {Q : Exit → Act → World → Prop} {md : Region.Mode} {S : World → Prop}
def skipsOk (md : Region.Mode) (ops : Array Oper) : List Nat → Array Bool → Act → Bool
 | [], _, _ => true
 | i :: is, listed, a => match ops[i]? with
  | none => false
  | some o => Region.free md ops listed i && (Region.ready md ops listed).contains i && !(Region.wanted o (yielded ops a.tmps)) && skipsOk md ops is (listed.setIfInBounds i true) (a.put o.dst undef)
def skipListed : List Nat → Array Bool → Array Bool
 | [], listed => listed
 | i :: is, listed => skipListed is (listed.setIfInBounds i true)
def skipAct (ops : Array Oper) : List Nat → Act → Act
 | [], a => a
 | i :: is, a => match ops[i]? with
  | none => a
  | some o => skipAct ops is (a.put o.dst undef)
theorem skips {w : World} (hs : Region.noSelect ops = true) (hQ : ∀ (d : Tmp) (v : Value) c a w, Q (.panic c) (a.put (some d) v) w → Q (.panic c) a w) (hS : S w) :
  ∀ (is : List Nat) (n fuel : Nat) (listed : Array Bool) (a : Act), n = fuel + is.length → skipsOk md ops is listed a = true →
   wpAnyH P md ops Q S fuel (skipListed is listed) (skipAct ops is a) w → wpAnyH P md ops Q S n listed a w := by
 intro is
 induction is with
 | nil => intro n fuel listed a hn _ h; subst hn; exact h
 | cons i is ih =>
  intro n fuel listed a hn hk h
  subst hn
  unfold skipsOk at hk
  unfold skipAct at h
  cases hi : ops[i]? with
  | none => rw [hi] at hk; cases hk
  | some o =>
   rw [hi] at hk h
   simp only [Bool.and_eq_true, Bool.not_eq_true'] at hk
   obtain ⟨⟨⟨h1, h2⟩, h3⟩, h4⟩ := hk
   exact wpAnyH_take (fuel := fuel + is.length) hi hs h1 h2 (by cases o.dst with | none => exact fun _ _ _ h => h | some d => exact hQ d _) (Or.inr ⟨h3, rfl⟩) hS (ih _ fuel _ _ rfl h4 h)
end
end Go.Proofs.YtdbgaccnejffpaaGreatDoor.Skips

namespace Go.Proofs.YtdbgaccnejffpaaGreatDoor.Sat
open Go.RowKit Go.Proofs.YtdbgaccnejffpaaGreatDoor.Ints Go.Proofs.YtdbgaccnejffpaaGreatDoor.Mem Go.Proofs.YtdbgaccnejffpaaGreatDoor.Src Go.Proofs.YtdbgaccnejffpaaGreatDoor.Paths Go.Proofs.YtdbgaccnejffpaaGreatDoor.Late Go.Proofs.YtdbgaccnejffpaaGreatDoor.Trace
def tmOf (t : Tr) : Tm := ⟨t.events.length, fun i => ((t.events.getD i noEv).time).toNat, fun s i => holdsT t ((i : Nat) : Int) s = true⟩
structure Jd where
 gj : Nat
 n : Nat
 nn : Nat
 nc : Nat
 ec : Nat
 lc : Nat
 bt : Nat
 NA : Option Addr
 EA : Option Addr
 LA : Option Addr
 t : Tr
 l : List Tree.Nd
structure JW (J : Jd) (W : World) : Prop where
 c0 : W.cell? ⟨J.gj, 0, none⟩ = some (.slice J.NA J.nn J.nc)
 c1 : W.cell? ⟨J.gj, 1, none⟩ = some (.slice J.EA J.n J.ec)
 c2 : W.cell? ⟨J.gj, 2, none⟩ = some (.slice J.LA J.l.length J.lc)
 c3 : W.cell? ⟨J.gj, 3, none⟩ = some (.slice (some ⟨J.bt, 0, none⟩) J.l.length J.l.length)
 tr : TrOk Any W J.NA J.nn J.nc J.EA J.n J.ec J.t
 nodes : Tree.Nodes Tree.Any W J.LA J.l
 lcap : J.l.length ≤ J.lc ∧ J.lc ≤ maxLen
 mt : mayT J.t = true
 ml : Tree.mayL J.l = true
 hn : J.n ≤ 64
 hl : J.l.length ≤ 1000
section
variable {J : Jd} {W W' : World}
theorem JW.below (h : JW J W) (hb : Below W.heap.size W W') : JW J W' :=
 ⟨below_cell hb h.c0, below_cell hb h.c1, below_cell hb h.c2, below_cell hb h.c3, h.tr.below hb, h.nodes.below hb, h.lcap, h.mt, h.ml, h.hn, h.hl⟩
theorem JW.tn (h : JW J W) : (tmOf J.t).n = J.n := h.tr.elen
theorem time_mono {t : Tr} (h : mayT t = true) {i j : Nat} (hij : i ≤ j) (hj : j < t.events.length) : (tmOf t).tm i ≤ (tmOf t).tm j := by
 have hm := ((mayT_iff t).1 h).2
 rw [evsOk_iff] at hm
 induction j with
 | zero => rw [show i = 0 by omega]; exact Nat.le_refl _
 | succ j ih =>
  by_cases e : i = j + 1
  ·rw [e]; exact Nat.le_refl _
  ·have h1 := ih (by omega) (by omega)
   have h2 := (hm (j + 1) hj).2 (by omega)
   rw [Nat.add_sub_cancel] at h2
   refine Nat.le_trans h1 ?_
   show ((t.events.getD j noEv).time).toNat ≤ ((t.events.getD (j + 1) noEv).time).toNat
   omega
theorem JW.ev (h : JW J W) {i : Nat} (hi : i < J.n) : ∃ (b off : Nat) (K : Option Addr) (c : Nat), J.EA = some ⟨b, off, none⟩ ∧ W.cell? ⟨b, off + i * 2, none⟩ = some (.int .u64 (((tmOf J.t).tm i : Nat) : Int)) ∧ (tmOf J.t).tm i < 18446744073709551616 ∧
  W.cell? ⟨b, off + i * 2 + 1, none⟩ = some (.slice K ((J.t.events.getD i noEv).ids.length) c) ∧ Rd .i64 W K (J.t.events.getD i noEv).ids.length (J.t.events.getD i noEv).ids ∧ (J.t.events.getD i noEv).ids.length ≤ c ∧ c ≤ maxLen := by
 have he := h.tr.elen
 obtain ⟨b, off, e, hc⟩ := h.tr.evs (by omega)
 obtain ⟨x, hx⟩ : ∃ x, J.t.events[i]? = some x := ⟨_, List.getElem?_eq_getElem (by omega)⟩
 have hd : J.t.events.getD i noEv = x := by rw [List.getD_eq_getElem?_getD, hx]; rfl
 obtain ⟨h1, h2, K, c, h3, h4, h5, h6, -⟩ := hc i x hx
 have hw := wf_u64 h2
 have ht : (((tmOf J.t).tm i : Nat) : Int) = x.time := by
  show ((((J.t.events.getD i noEv).time).toNat : Nat) : Int) = _
  rw [hd]
  omega
 refine ⟨b, off, K, c, e, ?_, by omega, ?_, ?_, ?_, h6⟩
 ·rw [ht, Nat.mul_comm]; exact h1
 ·rw [hd, Nat.mul_comm]; exact h3
 ·rw [hd]; exact h4
 ·rw [hd]; exact h5
end
set_option maxHeartbeats 8000000 in
set_option maxRecDepth 100000 in
theorem landDist (J : Jd) (i j : Nat) (w : World) (h : JW J w) (hij : i ≤ j) (hj : j < J.n) :
  Calls Tryz.prog 60 #[.pointer (some ⟨J.gj, 0, none⟩), .int .i64 ((i : Nat) : Int), .int .i64 ((j : Nat) : Int)] w fun e w' => e = .returned (.int .u64 (((tmOf J.t).tm j - (tmOf J.t).tm i : Nat) : Int)) ∧ Below w.heap.size w w' := by
 obtain ⟨b, off, K, c, hE, x1, y1, -⟩ := h.ev (show i < J.n by omega)
 obtain ⟨b', off', K', c', hE', x2, y2, -⟩ := h.ev hj
 rw [hE] at hE'
 injection hE' with hE'
 injection hE' with e1 e2 _
 subst e1
 subst e2
 have hm := time_mono h.mt hij (by rw [h.tr.elen]; exact hj)
 have c1 := h.c1
 obtain ⟨X, hX⟩ : ∃ X, (tmOf J.t).tm i = X := ⟨_, rfl⟩
 obtain ⟨Y, hY⟩ : ∃ Y, (tmOf J.t).tm j = Y := ⟨_, rfl⟩
 rw [hX] at x1 hm y1
 rw [hY] at x2 hm y2
 rw [hX, hY]
 rw [hE] at c1
 have hii : ((i : Nat) : Int) < ((J.n : Nat) : Int) := by omega
 have hji : ((j : Nat) : Int) < ((J.n : Nat) : Int) := by omega
 have hwr : IntKind.u64.wrap (((Y : Nat) : Int) - ((X : Nat) : Int)) = ((Y - X : Nat) : Int) := by
  rw [show ((Y : Nat) : Int) - ((X : Nat) : Int) = ((Y - X : Nat) : Int) by omega]
  have hw : ∀ n : Int, IntKind.u64.wrap n = n % 18446744073709551616 := fun n => by simp [IntKind.wrap, IntKind.bits, IntKind.signed]
  rw [hw]
  omega
 have hB0 := Lib.hid (Below.refl w.heap.size w)
 obtain ⟨g, hg⟩ : ∃ g, J.gj = g := ⟨_, rfl⟩
 obtain ⟨n, hn⟩ : ∃ n, J.n = n := ⟨_, rfl⟩
 rw [hg] at c1 ⊢
 rw [hn] at c1 hii hji
 clear h hE hX hY hm hij hj hg hn y1 y2
 go_enter Tryz.func60, Tryz.ntmps60
 go_wp2_with fail
 refine wp_region_held_drew (S := fun V => V.cell? ⟨g, 1, none⟩ = some (.slice (some ⟨b, off, none⟩) n J.ec) ∧ V.cell? ⟨b, off + i * 2, none⟩ = some (.int .u64 ((X : Nat) : Int)) ∧ V.cell? ⟨b, off + j * 2, none⟩ = some (.int .u64 ((Y : Nat) : Int))) (by kernel_rfl) ⟨c1, x1, x2⟩ (fun hHeld => ?_)
 refine tkOp 0 hHeld ?_
 refine tkOp 1 hHeld ?_
 refine tkOp 2 hHeld ?_
 refine tkOp 3 hHeld ?_
 refine tkOp 4 hHeld ?_
 refine tkOp 5 hHeld ?_
 refine tkOp 6 hHeld ?_
 refine tkOp 7 hHeld ?_
 refine tkOp 8 hHeld ?_
 refine tkOp 9 hHeld ?_
 refine tkOp 10 hHeld ?_
 refine tkOp 11 hHeld ?_
 refine tkOp 12 hHeld ?_
 refine tkOp 13 hHeld ?_
 refine tkOp 14 hHeld ?_
 refine tkOp 15 hHeld ?_
 refine tkOp 16 hHeld ?_
 refine tkOp 17 hHeld ?_
 refine wpAnyH_done (by kernel_rfl) ?_ _
 clear hHeld
 go_wp2_with fail
 go_ret
 exact ⟨rfl, hB0.out.drew⟩
end Go.Proofs.YtdbgaccnejffpaaGreatDoor.Sat
