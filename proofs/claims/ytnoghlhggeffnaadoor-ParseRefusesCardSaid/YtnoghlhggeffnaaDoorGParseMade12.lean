/-
  The landed reader in memory: its block, its tokens, its three rows, apart from each other. By an AI agent.
  append of one integer to a row of the call's own, and where the row then lies. By an AI agent.
-/
import Derived.Test.YtnoghlhggeffnaaDoorGParseMade11
import Derived.Test.YtnoghlhggeffnaaDoorGParseMade10
import Derived.Test.YtnoghlhggeffnaaDoorGParseMade1
import Derived.Maps.AppendAt
namespace Go.Proofs.YtnoghlhggeffnaaDoor.Parse
open Go.RowKit Go.Proofs.YtnoghlhggeffnaaDoor.Ints Go.Proofs.YtnoghlhggeffnaaDoor.Lex Go.Proofs.YtnoghlhggeffnaaDoor.Tree

/-! ### a block -/
/-- The block g begins with the cells vs. -/
def Blk (w : World) (g : Nat) (vs : List Value) : Prop := g < w.heap.size ∧ ∀ (k : Nat) (v : Value), vs[k]? = some v → w.cell? ⟨g, k, none⟩ = some v ∧ w.frozen? ⟨g, k, none⟩ = false
theorem Blk.cell {w : World} {g : Nat} {vs : List Value} (h : Blk w g vs) (k : Nat) {v : Value} (hv : vs[k]? = some v) : w.cell? ⟨g, k, none⟩ = some v := (h.2 k v hv).1
theorem Blk.fz {w : World} {g : Nat} {vs : List Value} (h : Blk w g vs) (k : Nat) {v : Value} (hv : vs[k]? = some v) : w.frozen? ⟨g, k, none⟩ = false := (h.2 k v hv).2
theorem Blk.same {w w' : World} {g : Nat} {vs : List Value} (h : Blk w g vs) (hs : w.heap.size ≤ w'.heap.size) (hb : w'.heap[g]? = w.heap[g]?) : Blk w' g vs :=
  ⟨Nat.lt_of_lt_of_le h.1 hs, fun k _ hv => ⟨(World.cell?_of_block (w := w) (a := ⟨g, k, none⟩) hb).trans (h.cell k hv), (World.frozen?_of_block (w := w) (a := ⟨g, k, none⟩) hb).trans (h.fz k hv)⟩⟩
theorem Blk.below {B : Nat} {w w' : World} {g : Nat} {vs : List Value} (h : Blk w g vs) (hb : Below B w w') (hg : g < B) : Blk w' g vs := h.same hb.size (hb.block g hg)
theorem Blk.later {w w' : World} {g : Nat} {vs : List Value} (h : Blk w g vs) (hb : Below w.heap.size w w') : Blk w' g vs := h.below hb h.1
theorem Blk.alloc {w : World} {g : Nat} {vs : List Value} (h : Blk w g vs) (o : Obj) : Blk (w.alloc o) g vs := h.later ((Below.refl _ _).alloc (Nat.le_refl _) _)
theorem Blk.grown {w w' : World} {g : Nat} {vs : List Value} {row : Option Nat} (h : Blk w g vs) (hg : w.grownBy w' row) (hne : some g ≠ row) : Blk w' g vs := h.same hg.size (hg.block g h.1 hne)
theorem Blk.set {w : World} {g : Nat} {vs : List Value} (h : Blk w g vs) (k : Nat) (u : Value) (hk : k < vs.length) : Blk (w.setCell ⟨g, k, none⟩ u) g (vs.set k u) := by
  refine ⟨by simpa using h.1, fun j v hv => ⟨?_, ?_⟩⟩
  · rw [List.getElem?_set] at hv
    by_cases e : k = j
    · subst e
      rw [if_pos rfl, if_pos hk] at hv
      cases hv
      exact World.cell?_setCell_same _ _ _ (h.cell k (List.getElem?_eq_getElem hk))
    · rw [if_neg e] at hv
      exact (World.cell?_setCell_other _ _ _ _ (fun e' => e (by injection e'))).trans (h.cell j hv)
  · rw [World.frozen?_setCell]
    rw [List.getElem?_set] at hv
    by_cases e : k = j
    · subst e
      exact h.fz k (List.getElem?_eq_getElem hk)
    · rw [if_neg e] at hv
      exact h.fz j hv
theorem Blk.other {w : World} {g : Nat} {vs : List Value} (h : Blk w g vs) (p : Addr) (u : Value) (hp : g ≠ p.block) : Blk (w.setCell p u) g vs := h.same (by simp) (Below.heap_setCell w p u g hp)
theorem Blk.drew {w : World} {g : Nat} {vs : List Value} (h : Blk w g vs) : Blk w.drew g vs := h
theorem Blk.drewN {w : World} {g : Nat} {vs : List Value} (h : Blk w g vs) (n : Nat) : Blk (w.drewN n) g vs := h
theorem Blk.new (w : World) (cs : Array Value) (T : TypeId) (vs : List Value) (hv : cs.toList = vs) : Blk (w.alloc (.cells cs T)) w.heap.size vs := by
  subst hv
  refine ⟨by simp, fun k v hk => ⟨?_, ?_⟩⟩
  · rw [cell_of_row _ w.heap.size k _ T (0, 0) (heap_alloc_new w _)]
    simpa using hk
  · exact World.frozen?_alloc_new _ _ _ _

/-! ### rows of what is open -/
def cellsE (x : Ent) : List Value := [.int .i64 (x.kind : Int), .int .i64 x.lo, .int .i64 x.hi, .int .i64 (x.kids : Int), .int .i64 (x.level : Int), .string (Lex.bytes x.closer), .bool x.reg, .int .i64 (x.depth : Int)]
def rowE (l : List Ent) : List Value := l.flatMap cellsE
theorem rowE_len (l : List Ent) : (rowE l).length = l.length * 8 := by
  induction l with
  | nil => rfl
  | cons t l ih =>
    simp only [rowE, List.flatMap_cons, List.length_append, List.length_cons] at ih ⊢
    rw [ih]
    show 8 + l.length * 8 = (l.length + 1) * 8
    omega
theorem rowE_snoc (l : List Ent) (t : Ent) : rowE (l ++ [t]) = rowE l ++ cellsE t := by simp [rowE]
theorem rowE_at : ∀ (l : List Ent) (j : Nat) (t : Ent), l[j]? = some t → ∀ f, f < 8 → (rowE l)[j * 8 + f]? = (cellsE t)[f]?
  | [], j, t, h, _, _ => by simp at h
  | x :: l, 0, t, h, f, hf => by
    simp only [List.getElem?_cons_zero, Option.some.injEq] at h
    subst h
    show (cellsE x ++ rowE l)[0 * 8 + f]? = _
    rw [Nat.zero_mul, Nat.zero_add, List.getElem?_append_left (by exact hf)]
  | x :: l, j + 1, t, h, f, hf => by
    have ih := rowE_at l j t (by simpa using h) f hf
    show (cellsE x ++ rowE l)[(j + 1) * 8 + f]? = _
    rw [List.getElem?_append_right (by show 8 ≤ _; omega), ← ih]
    congr 1
    show (j + 1) * 8 + f - 8 = _
    omega
theorem cellsE_one (t : Ent) : ∀ u ∈ cellsE t, u.oneCell' = true := by
  intro u hu
  simp only [cellsE, List.mem_cons, List.not_mem_nil, or_false] at hu
  rcases hu with rfl | rfl | rfl | rfl | rfl | rfl | rfl | rfl <;> rfl
theorem own_take {w : World} {base : Nat} {e : TypeId} {size : Nat} {A : Option Addr} {n c k : Nat} {xs ys : List Value} (h : w.ownsRow base e size (.slice A n c) n xs) (hk : k ≤ n) (hy : ys = xs.take (k * size)) : w.ownsRow base e size (.slice A k c) k ys := by
  subst hy
  obtain ⟨h1, h2⟩ := h
  have hle : k * size ≤ n * size := Nat.mul_le_mul_right _ hk
  refine ⟨by rw [List.length_take, h1]; omega, ?_⟩
  rcases h2 with ⟨h3, h4⟩ | ⟨g, cap, cur, h3, h4, h5, h6, h7, h8, h9⟩
  · have h3 : (A = none ∧ n = 0 ∧ c = 0) := by injection h3 with a b d; exact ⟨a, b, d⟩
    obtain ⟨rfl, rfl, rfl⟩ := h3
    have : k = 0 := by omega
    subst this
    exact Or.inl ⟨rfl, rfl⟩
  · injection h3 with a b d
    subst a; subst d
    refine Or.inr ⟨g, c, cur, rfl, h4, h5, by omega, h7, h8, ?_⟩
    rw [← h9, List.take_take, Nat.min_eq_left hle]
theorem own_form8 {w : World} {base : Nat} {e : TypeId} {size : Nat} {v : Value} {n : Nat} {xs : List Value} (h : w.ownsRow base e size v n xs) (hn : 0 < n) : ∃ g cap, v = .slice (some ⟨g, 0, none⟩) n cap ∧ base ≤ g ∧ g < w.heap.size ∧ n ≤ cap ∧ cap ≤ maxLen := by
  have hlt := h.lt
  rcases h.2 with ⟨_, h2⟩ | ⟨g, cap, cur, rfl, _, _, h3, h4, _⟩
  · omega
  · exact ⟨g, cap, rfl, (hlt g rfl).1, (hlt g rfl).2, h3, h4⟩
theorem own_same (A : Option Addr) (k n c : Nat) : (Value.slice A k c).ownBlock = (Value.slice A n c).ownBlock := by cases A <;> rfl

/-! ### the reader -/
/-- Blocks that are none of the reader's own, but for kids. -/
def Off3 (g : Nat) (ov rv : Value) : Nat → Prop := fun b => b ≠ g ∧ some b ≠ ov.ownBlock ∧ some b ≠ rv.ownBlock
def noneOr (a b : Option Nat) : Prop := a = none ∨ a ≠ b
theorem noneOr.symm {a b : Option Nat} (h : noneOr a b) : noneOr b a := by
  by_cases hb : b = none
  · exact Or.inl hb
  · refine Or.inr fun e => ?_
    rcases h with h | h
    · exact hb (e.trans h)
    · exact h e.symm
def cellsP (ts : List Tk) (tv ov nv rv : Value) (σ : PS) : List Value := [tv, .int .i64 ((ts.length - σ.rest.length : Nat) : Int), .bool σ.ended, .int .i64 (σ.made : Int), ov, nv, rv]
structure PMem (S : Nat → Prop) (w : World) (base g : Nat) (ts : List Tk) (tv ov nv rv : Value) (SN : List SNd) (σ : PS) : Prop where
  blk : Blk w g (cellsP ts tv ov nv rv σ)
  hg : base ≤ g
  hb : base ≤ w.heap.size
  toks : Toks w tv ts
  tlow : ∀ b, tv.ownBlock = some b → b < base
  suf : σ.rest <:+ ts
  opn : w.ownsRow base 62 8 ov σ.opn.length (rowE σ.opn.reverse)
  nds : OwnNodes (fun b => Off3 g ov rv b ∧ S b) w base nv SN
  ndl : SN.map (·.1) = σ.nodes
  rts : w.ownsRow base 3 1 rv σ.roots.length (σ.roots.reverse.map (Value.int .i64))
  og : ov.ownBlock ≠ some g
  ng : nv.ownBlock ≠ some g
  rg : rv.ownBlock ≠ some g
  on : noneOr ov.ownBlock nv.ownBlock
  or : noneOr ov.ownBlock rv.ownBlock
  nr : noneOr nv.ownBlock rv.ownBlock
  sg : S g
  so : ∀ b, ov.ownBlock = some b → S b
  sn : ∀ b, nv.ownBlock = some b → S b
  sr : ∀ b, rv.ownBlock = some b → S b
/-- What lies later does not matter. -/
theorem PMem.later {S : Nat → Prop} {w w' : World} {base g : Nat} {ts : List Tk} {tv ov nv rv : Value} {SN : List SNd} {σ : PS} (h : PMem S w base g ts tv ov nv rv SN σ) (hb : Below w.heap.size w w') : PMem S w' base g ts tv ov nv rv SN σ :=
  ⟨h.blk.later hb, h.hg, Nat.le_trans h.hb hb.size, h.toks.keep hb, h.tlow, h.suf, below_row h.opn hb, h.nds.below hb, h.ndl, below_row h.rts hb, h.og, h.ng, h.rg, h.on, h.or, h.nr, h.sg, h.so, h.sn, h.sr⟩
theorem ne_own {v : Value} {g b : Nat} (h : v.ownBlock ≠ some g) (hb : v.ownBlock = some b) : b ≠ g := fun e => h (by rw [hb, e])
/-- A store into the reader's own block: what is not a row. -/
theorem PMem.store {S : Nat → Prop} {w : World} {base g : Nat} {ts : List Tk} {tv ov nv rv : Value} {SN : List SNd} {σ σ' : PS} (h : PMem S w base g ts tv ov nv rv SN σ) (k : Nat) (u : Value)
    (hc : cellsP ts tv ov nv rv σ' = (cellsP ts tv ov nv rv σ).set k u) (hk : k < 7) (hs : σ'.rest <:+ ts) (ho : σ'.opn = σ.opn) (hn : σ'.nodes = σ.nodes) (hr : σ'.roots = σ.roots) :
    PMem S (w.setCell ⟨g, k, none⟩ u) base g ts tv ov nv rv SN σ' := by
  have hg : w.grownBy (w.setCell ⟨g, k, none⟩ u) (some g) := ⟨rfl, rfl, rfl, by simp, fun i _ hne => Below.heap_setCell w ⟨g, k, none⟩ u i (fun e => hne (by rw [e]))⟩
  have hbl : Below base w (w.setCell ⟨g, k, none⟩ u) := (Below.refl _ _).setCell (p := ⟨g, k, none⟩) h.hg u
  refine ⟨by rw [hc]; exact h.blk.set k u hk, h.hg, by simpa using h.hb, ?_, h.tlow, hs, by rw [ho]; exact h.opn.kept hg (Or.inr h.og), h.nds.keep hg (Or.inr h.ng) (fun b hb e => hb.1.1 (by injection e)), by rw [hn]; exact h.ndl, by rw [hr]; exact h.rts.kept hg (Or.inr h.rg), h.og, h.ng, h.rg, h.on, h.or, h.nr, h.sg, h.so, h.sn, h.sr⟩
  obtain ⟨A, c, h1, h2, h3⟩ := h.toks
  refine ⟨A, c, h1, fun a ha => by simpa using h2 a ha, fun h0 => ?_⟩
  obtain ⟨b, h4, h5⟩ := h3 h0
  have hlt : b < base := h.tlow b (by rw [h1, h4]; rfl)
  refine ⟨b, h4, fun j t ht => ?_⟩
  obtain ⟨c1, c2, c3, c4⟩ := h5 j t ht
  have key : ∀ (o : Nat) (v : Value), w.cell? ⟨b, o, none⟩ = some v → (w.setCell ⟨g, k, none⟩ u).cell? ⟨b, o, none⟩ = some v := fun o v hv => (hbl.cell (p := ⟨b, o, none⟩) hlt).trans hv
  exact ⟨key _ _ c1, key _ _ c2, key _ _ c3, key _ _ c4⟩
/-- The reader is in memory; and what a call of its methods leaves. -/
def PMemE (S : Nat → Prop) (w : World) (base g : Nat) (ts : List Tk) (σ : PS) : Prop := ∃ tv ov nv rv SN, PMem S w base g ts tv ov nv rv SN σ
theorem PMem.mono {S S' : Nat → Prop} {w : World} {base g : Nat} {ts : List Tk} {tv ov nv rv : Value} {SN : List SNd} {σ : PS} (h : PMem S w base g ts tv ov nv rv SN σ) (hs : ∀ b, b < w.heap.size → S b → S' b) : PMem S' w base g ts tv ov nv rv SN σ :=
  ⟨h.blk, h.hg, h.hb, h.toks, h.tlow, h.suf, h.opn, h.nds.mono fun b hb hp => ⟨hp.1, hs b hb hp.2⟩, h.ndl, h.rts, h.og, h.ng, h.rg, h.on, h.or, h.nr, hs g h.blk.1 h.sg, fun b hb => hs b (h.opn.lt b hb).2 (h.so b hb), fun b hb => hs b (h.nds.1.lt b hb).2 (h.sn b hb), fun b hb => hs b (h.rts.lt b hb).2 (h.sr b hb)⟩
theorem PMemE.mono {S S' : Nat → Prop} {w : World} {base g : Nat} {ts : List Tk} {σ : PS} (h : PMemE S w base g ts σ) (hs : ∀ b, b < w.heap.size → S b → S' b) : PMemE S' w base g ts σ := by
  obtain ⟨tv, ov, nv, rv, SN, h⟩ := h
  exact ⟨tv, ov, nv, rv, SN, h.mono hs⟩
/-- What there is now. -/
theorem PMemE.now {S : Nat → Prop} {w : World} {base g : Nat} {ts : List Tk} {σ : PS} (h : PMemE S w base g ts σ) : PMemE (fun b => b < w.heap.size) w base g ts σ := h.mono fun _ hb _ => hb
/-- A store into a block that is none of the reader's. -/
theorem PMem.far {S : Nat → Prop} {w : World} {base g : Nat} {ts : List Tk} {tv ov nv rv : Value} {SN : List SNd} {σ : PS} (h : PMem S w base g ts tv ov nv rv SN σ) (b k : Nat) (u : Value) (hb : ¬ S b) (hlow : base ≤ b) : PMem S (w.setCell ⟨b, k, none⟩ u) base g ts tv ov nv rv SN σ := by
  have hg : w.grownBy (w.setCell ⟨b, k, none⟩ u) (some b) := ⟨rfl, rfl, rfl, by simp, fun i _ hne => Below.heap_setCell w ⟨b, k, none⟩ u i (fun e => hne (by rw [e]))⟩
  have hbl : Below base w (w.setCell ⟨b, k, none⟩ u) := (Below.refl _ _).setCell (p := ⟨b, k, none⟩) hlow u
  have hne : ∀ {v : Value}, (∀ q, v.ownBlock = some q → S q) → v.ownBlock = none ∨ v.ownBlock ≠ some b := fun {v} hv => Or.inr fun e => hb (hv b e)
  refine ⟨h.blk.other _ _ (fun e => hb (by have e : g = b := e; rw [← e]; exact h.sg)), h.hg, by simpa using h.hb, ?_, h.tlow, h.suf, h.opn.kept hg (hne h.so), h.nds.keep hg (hne h.sn) (fun q hq e => hb (by injection e with e; rw [← e]; exact hq.2)), h.ndl, h.rts.kept hg (hne h.sr), h.og, h.ng, h.rg, h.on, h.or, h.nr, h.sg, h.so, h.sn, h.sr⟩
  obtain ⟨A, c, h1, h2, h3⟩ := h.toks
  refine ⟨A, c, h1, fun a ha => by simpa using h2 a ha, fun h0 => ?_⟩
  obtain ⟨q, h4, h5⟩ := h3 h0
  have hlt : q < base := h.tlow q (by rw [h1, h4]; rfl)
  refine ⟨q, h4, fun j t ht => ?_⟩
  obtain ⟨c1, c2, c3, c4⟩ := h5 j t ht
  have key : ∀ (o : Nat) (v : Value), w.cell? ⟨q, o, none⟩ = some v → (w.setCell ⟨b, k, none⟩ u).cell? ⟨q, o, none⟩ = some v := fun o v hv => (hbl.cell (p := ⟨q, o, none⟩) hlt).trans hv
  exact ⟨key _ _ c1, key _ _ c2, key _ _ c3, key _ _ c4⟩
theorem PMemE.later {S : Nat → Prop} {w w' : World} {base g : Nat} {ts : List Tk} {σ : PS} (h : PMemE S w base g ts σ) (hb : Below w.heap.size w w') : PMemE S w' base g ts σ := by
  obtain ⟨tv, ov, nv, rv, SN, h⟩ := h
  exact ⟨tv, ov, nv, rv, SN, h.later hb⟩
theorem PMemE.base {S : Nat → Prop} {w : World} {base g : Nat} {ts : List Tk} {σ : PS} (h : PMemE S w base g ts σ) : base ≤ w.heap.size := by
  obtain ⟨tv, ov, nv, rv, SN, h⟩ := h
  exact h.hb
/-- The token to be read. -/
theorem PMem.tok {S : Nat → Prop} {w : World} {base g : Nat} {ts : List Tk} {tv ov nv rv : Value} {SN : List SNd} {σ : PS} (h : PMem S w base g ts tv ov nv rv SN σ) {t : Tk} {r : List Tk} (hr : σ.rest = t :: r) :
    ∃ b c j, tv = .slice (some ⟨b, 0, none⟩) ts.length c ∧ ts.length - σ.rest.length = j ∧ j < ts.length ∧ w.cell? ⟨b, 4 * j, none⟩ = some (.int .i64 (t.kind : Int)) ∧ w.cell? ⟨b, 4 * j + 1, none⟩ = some (.string (Lex.bytes t.text)) ∧ w.cell? ⟨b, 4 * j + 2, none⟩ = some (.int .i64 (t.num : Int)) ∧ w.cell? ⟨b, 4 * j + 3, none⟩ = some (.int .i64 (t.pos : Int)) := by
  obtain ⟨pre, hpre⟩ := h.suf
  have hl : ts.length = pre.length + (r.length + 1) := by rw [← hpre, hr, List.length_append, List.length_cons]
  obtain ⟨A, c, h1, h2, h3⟩ := h.toks
  obtain ⟨b, rfl, h5⟩ := h3 (by omega)
  have hj : ts.length - σ.rest.length = pre.length := by rw [hr, List.length_cons]; omega
  have ht : ts[pre.length]? = some t := by
    rw [← hpre, List.getElem?_append_right (Nat.le_refl _), Nat.sub_self, hr]; rfl
  exact ⟨b, c, pre.length, h1, hj, by omega, h5 _ t ht⟩
end Go.Proofs.YtnoghlhggeffnaaDoor.Parse

namespace Go.Proofs.YtnoghlhggeffnaaDoor.Ints
open Go.RowKit

theorem own_weaken {w : World} {base base' : Nat} {e : TypeId} {size : Nat} {v : Value} {n : Nat} {xs : List Value} (h : w.ownsRow base e size v n xs) (hb : base' ≤ base) : w.ownsRow base' e size v n xs := by
  refine ⟨h.1, ?_⟩
  rcases h.2 with h2 | ⟨g, cap, cur, h3, h4, h5⟩
  · exact .inl h2
  · exact .inr ⟨g, cap, cur, h3, Nat.le_trans hb h4, h5⟩

section
variable {P : Program} {w : World}
/-- 'append(v, y)': v is the call's own row of integers; y lies in a new block. -/
theorem wpList_append_int1 {ops : Array Oper} {rest : List Oper} {o : Oper} {a : Act} {Q : Exit → Act → World → Prop} (hgd : o.guard = none) (s x : Operand) (t : TypeId)
    (ho : o.op = .call { callee := .builtin .append, args := #[s, x], argTypes := #[t, t] }) (k : IntKind) (base : Nat) (e : TypeId) (i : TypeInfo)
    (ht : P.underlying t = some (.slice e)) (hi : P.info? e = some i) (hz : i.zero = some (.int k 0)) (hsize : i.size = 1) (hby : i.bytes = 8)
    (v : Value) (n : Nat) (zs : List Int) (hs : a.eval s = v) (hown : w.ownsRow base e 1 v n (zs.map (Value.int k)))
    (y : Int) (T : TypeId) (cs : Array Value) (hcs : cs = #[.int k y]) (H : Nat) (hH : w.heap.size = H) (hx : a.eval x = .slice (some ⟨H, 0, none⟩) 1 1)
    (hl : n ≤ 4194304) (hbase : base ≤ w.heap.size)
    (h : ∀ v' w', w'.ownsRow base e 1 v' (n + 1) ((zs ++ [y]).map (Value.int k)) → (w.alloc (.cells cs T)).grownBy w' v.ownBlock → (v'.ownBlock = v.ownBlock ∨ v'.ownBlock = some (w.alloc (.cells cs T)).heap.size) → wpList P ops Q rest (a.put o.dst v') w') : wpList P ops Q (o :: rest) a (w.alloc (.cells cs T)) := by
  subst hcs
  subst hH
  refine wpList_plain hgd fun K hK => ?_
  obtain ⟨v', w', hrun, h1, h2, -, h4⟩ := run_append_own_at (P := P) (w.alloc (.cells #[.int k y] T)) base t o.type e i (.int k 0) 1 8 ht hi hz hsize hby rfl (by decide) v n _ (hown.alloc _) ⟨w.heap.size, 0, none⟩ 1 1 [.int k y] rfl (fun j u hu => by
      have hj : j = 0 := by
        rcases j with _ | j
        · rfl
        · simp at hu
      subst hj
      rw [show (⟨w.heap.size, 0, none⟩ : Addr).add 0 = ⟨w.heap.size, 0, none⟩ by unfold Addr.add; simp]
      rw [cell_of_row _ w.heap.size 0 _ T (0, 0) (heap_alloc_new w _)]
      simpa using hu) (fun u hu => by rw [List.mem_singleton.1 hu]; rfl) (by have : maxLen = 9223372036854775807 := rfl; omega) (by omega) (by simp; omega)
  unfold Oper.wp
  simp [execOp, ho, resolve, invoke, builtin, hs, hx, hrun, Result.andThen]
  exact hK _ _ (h v' w' (by rw [List.map_append]; exact h1) h2 h4)
/-- 'append(v, y)': v is the call's own row of one-cell values; y lies in a new block. -/
theorem wpList_append_one {ops : Array Oper} {rest : List Oper} {o : Oper} {a : Act} {Q : Exit → Act → World → Prop} (hgd : o.guard = none) (s x : Operand) (t : TypeId)
    (ho : o.op = .call { callee := .builtin .append, args := #[s, x], argTypes := #[t, t] }) (base : Nat) (e : TypeId) (i : TypeInfo) (z : Value) (nb : Nat)
    (ht : P.underlying t = some (.slice e)) (hi : P.info? e = some i) (hz : i.zero = some z) (hsize : i.size = 1) (hby : i.bytes = nb) (hzs : z.cells.size = 1) (hnb : nb ≤ 64)
    (v : Value) (n : Nat) (xs : List Value) (hs : a.eval s = v) (hown : w.ownsRow base e 1 v n xs)
    (y : Value) (hy : y.oneCell' = true) (T : TypeId) (cs : Array Value) (hcs : cs = #[y]) (H : Nat) (hH : w.heap.size = H) (hx : a.eval x = .slice (some ⟨H, 0, none⟩) 1 1)
    (hl : n ≤ 1048576) (hbase : base ≤ w.heap.size)
    (h : ∀ v' w', w'.ownsRow base e 1 v' (n + 1) (xs ++ [y]) → (w.alloc (.cells cs T)).grownBy w' v.ownBlock → (v'.ownBlock = v.ownBlock ∨ v'.ownBlock = some (w.alloc (.cells cs T)).heap.size) → wpList P ops Q rest (a.put o.dst v') w') : wpList P ops Q (o :: rest) a (w.alloc (.cells cs T)) := by
  subst hcs
  subst hH
  refine wpList_plain hgd fun K hK => ?_
  obtain ⟨v', w', hrun, h1, h2, -, h4⟩ := run_append_own_at (P := P) (w.alloc (.cells #[y] T)) base t o.type e i z 1 nb ht hi hz hsize hby hzs (by decide) v n _ (hown.alloc _) ⟨w.heap.size, 0, none⟩ 1 1 [y] rfl (fun j u hu => by
      have hj : j = 0 := by
        rcases j with _ | j
        · rfl
        · simp at hu
      subst hj
      rw [show (⟨w.heap.size, 0, none⟩ : Addr).add 0 = ⟨w.heap.size, 0, none⟩ by unfold Addr.add; simp]
      rw [cell_of_row _ w.heap.size 0 _ T (0, 0) (heap_alloc_new w _)]
      simpa using hu) (fun u hu => by rw [List.mem_singleton.1 hu]; exact hy) (by have : maxLen = 9223372036854775807 := rfl; omega) (by have : (n + 1) * nb ≤ 1048577 * 64 := Nat.mul_le_mul (by omega) hnb; omega) (by simp; omega)
  unfold Oper.wp
  simp [execOp, ho, resolve, invoke, builtin, hs, hx, hrun, Result.andThen]
  exact hK _ _ (h v' w' h1 h2 h4)
end
end Go.Proofs.YtnoghlhggeffnaaDoor.Ints
