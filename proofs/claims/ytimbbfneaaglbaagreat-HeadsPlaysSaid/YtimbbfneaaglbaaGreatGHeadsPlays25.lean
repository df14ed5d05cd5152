/-
  Lists of structs of integers that came in: what they read as, row by row. By an AI agent.
  A drawn region taken by hand: what is asked behind each operation may grow on the way, by what a call has laid. By an AI agent.
  Operations of a drawn region that are not wanted, a row of them passed at once. By an AI agent.
-/
import Derived.Test.YtimbbfneaaglbaaGreatGHeadsPlays1
import Derived.Deep.RegionHeld3
namespace Go.Proofs.YtimbbfneaaglbaaGreat.Mem
open Go.RowKit Go.ChangeShapes Go.WideShapes Go.Deep Go.Proofs.YtimbbfneaaglbaaGreat.Ints

/-- A row's values, each of its kind. -/
def RowVals (ks : List IntKind) (row : List Int) (val : Nat → Option Value) : Prop :=
  row.length = ks.length ∧ ∀ (i : Nat) (k : IntKind) (z : Int), ks[i]? = some k → row[i]? = some z → val i = some (.int k z) ∧ (Lit.int k z).wf = true
/-- The slice of address A reads as rows of integers of these kinds. -/
def IntRows (ks : List IntKind) (w : World) (A : Option Addr) (rows : List (List Int)) : Prop :=
  0 < rows.length → ∃ b off, A = some ⟨b, off, none⟩ ∧ ∀ (j : Nat) (row : List Int), rows[j]? = some row → RowVals ks row (fun i => w.cell? ⟨b, off + j * ks.length + i, none⟩)
theorem IntRows.below {ks : List IntKind} {w w' : World} {A : Option Addr} {rows : List (List Int)} (h : IntRows ks w A rows) (hb : Below w.heap.size w w') : IntRows ks w' A rows := fun h0 => by
  obtain ⟨b, off, h1, h2⟩ := h h0
  exact ⟨b, off, h1, fun j row hj => ⟨(h2 j row hj).1, fun i k z hk hz => ⟨below_cell hb ((h2 j row hj).2 i k z hk hz).1, ((h2 j row hj).2 i k z hk hz).2⟩⟩⟩
/-- One row of two. -/
theorem IntRows.two {k0 k1 : IntKind} {w : World} {A : Option Addr} {rows : List (List Int)} (h : IntRows [k0, k1] w A rows) {j : Nat} (hj : j < rows.length) :
    ∃ b off x y, A = some ⟨b, off, none⟩ ∧ rows[j]? = some [x, y] ∧ w.cell? ⟨b, off + j * 2, none⟩ = some (.int k0 x) ∧ w.cell? ⟨b, off + j * 2 + 1, none⟩ = some (.int k1 y) ∧ (Lit.int k0 x).wf = true ∧ (Lit.int k1 y).wf = true := by
  obtain ⟨b, off, h1, h2⟩ := h (by omega)
  have hr := List.getElem?_eq_getElem hj
  obtain ⟨h3, h4⟩ := h2 j _ hr
  obtain ⟨row, hrow⟩ : ∃ row, rows[j] = row := ⟨_, rfl⟩
  rw [hrow] at hr h3 h4
  match row, h3 with
  | [x, y], _ =>
    have e0 := h4 0 k0 x rfl rfl
    have e1 := h4 1 k1 y rfl rfl
    exact ⟨b, off, x, y, h1, hr, e0.1, e1.1, e0.2, e1.2⟩
/-- One row of three. -/
theorem IntRows.three {k0 k1 k2 : IntKind} {w : World} {A : Option Addr} {rows : List (List Int)} (h : IntRows [k0, k1, k2] w A rows) {j : Nat} (hj : j < rows.length) :
    ∃ b off x y z, A = some ⟨b, off, none⟩ ∧ rows[j]? = some [x, y, z] ∧ w.cell? ⟨b, off + j * 3, none⟩ = some (.int k0 x) ∧ w.cell? ⟨b, off + j * 3 + 1, none⟩ = some (.int k1 y) ∧ w.cell? ⟨b, off + j * 3 + 2, none⟩ = some (.int k2 z) ∧ (Lit.int k0 x).wf = true ∧ (Lit.int k1 y).wf = true ∧ (Lit.int k2 z).wf = true := by
  obtain ⟨b, off, h1, h2⟩ := h (by omega)
  have hr := List.getElem?_eq_getElem hj
  obtain ⟨h3, h4⟩ := h2 j _ hr
  obtain ⟨row, hrow⟩ : ∃ row, rows[j] = row := ⟨_, rfl⟩
  rw [hrow] at hr h3 h4
  match row, h3 with
  | [x, y, z], _ =>
    have e0 := h4 0 k0 x rfl rfl
    have e1 := h4 1 k1 y rfl rfl
    have e2 := h4 2 k2 z rfl rfl
    exact ⟨b, off, x, y, z, h1, hr, e0.1, e1.1, e2.1, e0.2, e1.2, e2.2⟩

section
variable {H : Type} {enc : TypeId × Value → H} {w : World} {P : Program}
/-- A struct of integers that is read: its cells. -/
theorem ints_of {T : TypeId} {ks : List IntKind} {ts : List TypeId} (hs : P.underlying T = some (.struct (P.fieldsOf T))) (hf : (P.fieldsOf T).toList.map (fun f => (f.type, f.offset)) = ts.zipIdx)
    (hk : ∀ (i : Nat) (t : TypeId), ts[i]? = some t → ∃ k, ks[i]? = some k ∧ P.underlying t = some (.int k) ∧ P.cellsOf t = 1) (hl : ts.length = ks.length)
    {fuel : Nat} {cs : List Value} {x : DataW H × List MemPlace} (h : DataW.trod enc P w 0 (fun _ => true) true fuel T cs = some x) :
    ∃ row : List Int, RowVals ks row (fun i => cs[i]?) := by
  obtain ⟨ys, m, -, -, -, hlen, hg⟩ := DataW.trod_struct hs h
  have hsz : (P.fieldsOf T).size = ts.length := by
    have := congrArg List.length hf
    simpa using this
  have hone : ∀ i, i < ks.length → ∃ k z, ks[i]? = some k ∧ cs[i]? = some (.int k z) ∧ (Lit.int k z).wf = true := fun i hi => by
    have ht : ts[i]? = some (ts[i]'(by omega)) := List.getElem?_eq_getElem (by omega)
    obtain ⟨k, h1, h2, h3⟩ := hk i _ ht
    obtain ⟨f, e1, e2, e3⟩ := field_at hf (i := i) (t := ts[i]'(by omega)) (o := i) (by rw [List.getElem?_zipIdx, ht]; simp)
    have h4 := hg i f e1
    rw [e2, e3, h3, List.getElem?_eq_getElem (show i < ys.length by omega)] at h4
    obtain ⟨z, c0, -, hw⟩ := DataW.trod_int h2 h4
    exact ⟨k, z, h1, one_of c0, hw⟩
  refine ⟨(List.range ks.length).map fun i => match cs[i]? with | some (Value.int _ z) => z | _ => (0 : Int), by simp, fun i k z h1 h2 => ?_⟩
  have hi : i < ks.length := (List.getElem?_eq_some_iff.1 h1).1
  obtain ⟨k', z', e1, e2, e3⟩ := hone i hi
  rw [List.getElem?_map, List.getElem?_range hi] at h2
  simp only [Option.map_some, Option.some.injEq] at h2
  rw [e2] at h2
  simp only at h2
  subst h2
  rw [e1] at h1
  cases h1
  exact ⟨e2, e3⟩
set_option maxRecDepth 100000 in
/-- A slice of such structs that came in. -/
theorem introws_trod {S T : TypeId} {ks : List IntKind} {ts : List TypeId} (hS : P.underlying S = some (.slice T)) (hc : P.cellsOf T = ks.length) (h0 : 0 < ks.length) (hs : P.underlying T = some (.struct (P.fieldsOf T))) (hf : (P.fieldsOf T).toList.map (fun f => (f.type, f.offset)) = ts.zipIdx)
    (hk : ∀ (i : Nat) (t : TypeId), ts[i]? = some t → ∃ k, ks[i]? = some k ∧ P.underlying t = some (.int k) ∧ P.cellsOf t = 1) (hl : ts.length = ks.length)
    {fuel len cap : Nat} {A : Option Addr} {x : DataW H × List MemPlace} (hh : DataW.trod enc P w 0 (fun _ => true) true fuel S [.slice A len cap] = some x) :
    ∃ rows : List (List Int), rows.length = len ∧ IntRows ks w A rows ∧ len ≤ cap ∧ cap ≤ maxLen := by
  rcases open_slice hS hh with ⟨hcs, -⟩ | ⟨a, l', c', m, n, D, Pl, hcs, -, hle, hm, hmm, -, hi⟩
  · simp at hcs
    obtain ⟨rfl, rfl, rfl⟩ := hcs
    exact ⟨[], rfl, fun h0 => by simp at h0, Nat.le_refl _, by decide⟩
  · simp at hcs
    obtain ⟨rfl, rfl, rfl⟩ := hcs
    have hm' : m = cap := by simpa using hmm
    have hone : ∀ i, i < len → ∃ row b off, a = ⟨b, off, none⟩ ∧ RowVals ks row (fun j => w.cell? ⟨b, off + i * ks.length + j, none⟩) := fun i hi' => by
      obtain ⟨cs', hcc, ht⟩ := hi i (by omega)
      rw [hc] at hcc
      obtain ⟨-, hcl, hat⟩ := World.cells?_some hcc
      obtain ⟨b, off, spot⟩ := a
      obtain ⟨cs0, hc0, -⟩ := hi 0 (by omega)
      rw [hc] at hc0
      obtain ⟨-, hcl0, hat0⟩ := World.cells?_some hc0
      have h00 := hat0 0 (by omega)
      have hv : cs0[0]? = some (cs0[0]'(by omega)) := List.getElem?_eq_getElem (by omega)
      rw [hv, Addr.add_add] at h00
      have hspot : spot = none := by simpa [Addr.add] using World.cell?_spot h00
      subst hspot
      obtain ⟨row, hr1, hr2⟩ := ints_of hs hf hk hl ht
      refine ⟨row, b, off, rfl, hr1, fun j k z hkj hzj => ?_⟩
      have hj : j < ks.length := (List.getElem?_eq_some_iff.1 hkj).1
      obtain ⟨e1, e2⟩ := hr2 j k z hkj hzj
      refine ⟨?_, e2⟩
      rw [← e1]
      show w.cell? ⟨b, off + i * ks.length + j, none⟩ = cs'[j]?
      rw [← hat j (by omega), Addr.add_add]
      congr 1
      unfold Addr.add
      split <;> simp_all <;> omega
    refine ⟨(List.range len).map fun i => if h : i < len then Classical.choose (hone i h) else [], by simp, fun h1 => ?_, hle, hm⟩
    simp only [List.length_map, List.length_range] at h1
    obtain ⟨-, b, off, rfl, -⟩ := hone 0 h1
    refine ⟨b, off, rfl, fun j row hj => ?_⟩
    have hj' : j < len := by
      have := (List.getElem?_eq_some_iff.1 hj).1
      simpa using this
    simp only [List.getElem?_map, List.getElem?_range hj', Option.map_some, Option.some.injEq, dif_pos hj'] at hj
    subst hj
    obtain ⟨b', off', e, hn⟩ := Classical.choose_spec (hone j hj')
    injection e with e1 e2
    subst e1; subst e2
    exact hn
end
end Go.Proofs.YtimbbfneaaglbaaGreat.Mem

namespace Go.Proofs.YtimbbfneaaglbaaGreat.Held
open Go
variable {P : Program} {ops : Array Oper} {Q : Exit → Act → World → Prop} {md : Region.Mode} {S S' : World → Prop}

theorem mono (h : ∀ W, S' W → S W) : ∀ (fuel : Nat) (listed : Array Bool) (a : Act) (w : World), wpAnyH P md ops Q S' fuel listed a w → wpAnyH P md ops Q S fuel listed a w
  | 0, _, _, _, H => H
  | fuel + 1, _, _, _, H => ⟨H.1, fun i hi => wpOp_mono (fun a' w' h' => ⟨h _ h'.1, mono h fuel _ a' w' h'.2⟩) (H.2 i hi)⟩
/-- From here on S' is asked, which says more, and holds now. -/
theorem more {fuel : Nat} {listed : Array Bool} {a : Act} {w : World} (S' : World → Prop) (h : ∀ W, S' W → S W) (hS : S' w) (H : S' w → wpAnyH P md ops Q S' fuel listed a w) : wpAnyH P md ops Q S fuel listed a w :=
  mono h fuel listed a w (H hS)
end Go.Proofs.YtimbbfneaaglbaaGreat.Held

namespace Go.Proofs.YtimbbfneaaglbaaGreat.Skips
open Go

section
variable {P : Program} {ops : Array Oper} {Q : Exit → Act → World → Prop} {md : Region.Mode} {S : World → Prop}

/-- May these be passed, one behind the other? -/
def skipsOk (md : Region.Mode) (ops : Array Oper) : List Nat → Array Bool → Act → Bool
  | [], _, _ => true
  | i :: is, listed, a => match ops[i]? with
    | none => false
    | some o => Region.free md ops listed i && (Region.ready md ops listed).contains i && !(Region.wanted o (yielded ops a.tmps)) && skipsOk md ops is (listed.setIfInBounds i true) (a.put o.dst undef)
/-- What is listed then. -/
def skipListed : List Nat → Array Bool → Array Bool
  | [], listed => listed
  | i :: is, listed => skipListed is (listed.setIfInBounds i true)
/-- The state then. -/
def skipAct (ops : Array Oper) : List Nat → Act → Act
  | [], a => a
  | i :: is, a => match ops[i]? with
    | none => a
    | some o => skipAct ops is (a.put o.dst undef)

theorem skips {w : World} (hs : Region.noSelect ops = true) (hQ : ∀ (d : Tmp) (v : Value) c a w, Q (.panic c) (a.put (some d) v) w → Q (.panic c) a w) (hS : S w) :
    ∀ (is : List Nat) (n fuel : Nat) (listed : Array Bool) (a : Act), n = fuel + is.length → skipsOk md ops is listed a = true →
      wpAnyH P md ops Q S fuel (skipListed is listed) (skipAct ops is a) w → wpAnyH P md ops Q S n listed a w := by
  intro is
  induction is with
  | nil => intro n fuel listed a hn _ h; subst hn; exact h
  | cons i is ih =>
    intro n fuel listed a hn hk h
    subst hn
    unfold skipsOk at hk
    unfold skipAct at h
    cases hi : ops[i]? with
    | none => rw [hi] at hk; cases hk
    | some o =>
      rw [hi] at hk h
      simp only [Bool.and_eq_true, Bool.not_eq_true'] at hk
      obtain ⟨⟨⟨h1, h2⟩, h3⟩, h4⟩ := hk
      exact wpAnyH_take (fuel := fuel + is.length) hi hs h1 h2 (by cases o.dst with | none => exact fun _ _ _ h => h | some d => exact hQ d _) (Or.inr ⟨h3, rfl⟩) hS (ih _ fuel _ _ rfl h4 h)
end
end Go.Proofs.YtimbbfneaaglbaaGreat.Skips
