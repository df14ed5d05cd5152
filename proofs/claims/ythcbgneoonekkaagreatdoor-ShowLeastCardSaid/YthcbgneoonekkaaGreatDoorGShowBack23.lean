/-
  The walks of the landed reader's tok, top, deep, create. By an AI agent.
  The landed reader in memory: one of its rows grows, or is cut. By an AI agent.
-/
import Derived.Test.YthcbgneoonekkaaGreatDoorGShowBack22
import Derived.RegionTactic
import Derived.ChangeAlike
import Derived.Deep.QuietTactic
import Derived.BigQuiet
import Derived.StillTailTactics
namespace Go.Proofs.YthcbgneoonekkaaGreatDoor.Parse
open Go.RowKit Go.Proofs.YthcbgneoonekkaaGreatDoor.Ints Go.Proofs.YthcbgneoonekkaaGreatDoor.Lex Go.Proofs.YthcbgneoonekkaaGreatDoor.Tree

/-! ### fields of values -/
theorem fieldE0 (a b c d e : Int) (s : ByteArray) (r : Bool) (f : Int) (w : World) : (Instr.field 69 (.agg #[.int .i64 a, .int .i64 b, .int .i64 c, .int .i64 d, .int .i64 e, .string s, .bool r, .int .i64 f]) 0).run Tryz.prog w = .ok (.int .i64 a) w := by kernel_rfl
theorem fieldE2 (a b c d e : Int) (s : ByteArray) (r : Bool) (f : Int) (w : World) : (Instr.field 69 (.agg #[.int .i64 a, .int .i64 b, .int .i64 c, .int .i64 d, .int .i64 e, .string s, .bool r, .int .i64 f]) 2).run Tryz.prog w = .ok (.int .i64 d) w := by kernel_rfl
theorem fieldE3 (a b c d e : Int) (s : ByteArray) (r : Bool) (f : Int) (w : World) : (Instr.field 69 (.agg #[.int .i64 a, .int .i64 b, .int .i64 c, .int .i64 d, .int .i64 e, .string s, .bool r, .int .i64 f]) 3).run Tryz.prog w = .ok (.int .i64 e) w := by kernel_rfl
theorem fieldE4 (a b c d e : Int) (s : ByteArray) (r : Bool) (f : Int) (w : World) : (Instr.field 69 (.agg #[.int .i64 a, .int .i64 b, .int .i64 c, .int .i64 d, .int .i64 e, .string s, .bool r, .int .i64 f]) 4).run Tryz.prog w = .ok (.string s) w := by kernel_rfl
theorem fieldE5 (a b c d e : Int) (s : ByteArray) (r : Bool) (f : Int) (w : World) : (Instr.field 69 (.agg #[.int .i64 a, .int .i64 b, .int .i64 c, .int .i64 d, .int .i64 e, .string s, .bool r, .int .i64 f]) 5).run Tryz.prog w = .ok (.bool r) w := by kernel_rfl
theorem fieldE6 (a b c d e : Int) (s : ByteArray) (r : Bool) (f : Int) (w : World) : (Instr.field 69 (.agg #[.int .i64 a, .int .i64 b, .int .i64 c, .int .i64 d, .int .i64 e, .string s, .bool r, .int .i64 f]) 6).run Tryz.prog w = .ok (.int .i64 f) w := by kernel_rfl
theorem fieldT0 (a : Int) (s : ByteArray) (c d : Int) (w : World) : (Instr.field 75 (.agg #[.int .i64 a, .string s, .int .i64 c, .int .i64 d]) 0).run Tryz.prog w = .ok (.int .i64 a) w := by kernel_rfl
theorem fieldT1 (a : Int) (s : ByteArray) (c d : Int) (w : World) : (Instr.field 75 (.agg #[.int .i64 a, .string s, .int .i64 c, .int .i64 d]) 1).run Tryz.prog w = .ok (.string s) w := by kernel_rfl
theorem fieldT2 (a : Int) (s : ByteArray) (c d : Int) (w : World) : (Instr.field 75 (.agg #[.int .i64 a, .string s, .int .i64 c, .int .i64 d]) 2).run Tryz.prog w = .ok (.int .i64 c) w := by kernel_rfl
theorem fieldT3 (a : Int) (s : ByteArray) (c d : Int) (w : World) : (Instr.field 75 (.agg #[.int .i64 a, .string s, .int .i64 c, .int .i64 d]) 3).run Tryz.prog w = .ok (.int .i64 d) w := by kernel_rfl

set_option maxHeartbeats 2000000 in
theorem landTok {S : Nat → Prop} (base g : Nat) (ts : List Tk) (σ : PS) (t : Tk) (r : List Tk) (w : World) (h : PMemE S w base g ts σ) (hr : σ.rest = t :: r) (hl : ts.length ≤ 5000) :
    Calls Tryz.prog 26 #[.pointer (some ⟨g, 0, none⟩)] w fun e w' => e = .returned (.agg #[.int .i64 (t.kind : Int), .string (Lex.bytes t.text), .int .i64 (t.num : Int), .int .i64 (t.pos : Int)]) ∧ Below w.heap.size w w' := by
  obtain ⟨tv, ov, nv, rv, SN, h⟩ := h
  obtain ⟨b, c, j, rfl, hj, hjl, d0, d1, d2, d3⟩ := h.tok hr
  have c0 : ∀ o, (w.alloc o).cell? ⟨g, 0, none⟩ = _ := fun o => (h.blk.alloc o).cell 0 rfl
  have c1 : ∀ o, (w.alloc o).cell? ⟨g, 1, none⟩ = _ := fun o => (h.blk.alloc o).cell 1 rfl
  rw [hj] at c1
  rw [Nat.mul_comm 4 j] at d0 d1 d2 d3
  have e0 : ∀ o, (w.alloc o).cell? ⟨b, j * 4, none⟩ = _ := fun o => Lib.cell?_alloc_marked o d0
  have e1 : ∀ o, (w.alloc o).cell? ⟨b, j * 4 + 1, none⟩ = _ := fun o => Lib.cell?_alloc_marked o d1
  have e2 : ∀ o, (w.alloc o).cell? ⟨b, j * 4 + 2, none⟩ = _ := fun o => Lib.cell?_alloc_marked o d2
  have e3 : ∀ o, (w.alloc o).cell? ⟨b, j * 4 + 3, none⟩ = _ := fun o => Lib.cell?_alloc_marked o d3
  have hj2 : (j : Int) < (ts.length : Int) := by omega
  have hj3 : (0 : Int) ≤ (j : Int) := by omega
  have HL := Lib.hid hl
  clear h hr hl d0 d1 d2 d3 hj
  go_enter Tryz.func26, Tryz.ntmps26
  go_wp2
  go_region
  go_wp2
  exact bodyPost_ret (v := .agg #[.int .i64 (t.kind : Int), .string (Lex.bytes t.text), .int .i64 (t.num : Int), .int .i64 (t.pos : Int)]) (by simp [results, Tryz.results26, go_sem]) rfl ⟨rfl, ((Below.refl _ _).alloc (Nat.le_refl _) _).drew⟩

/-- The innermost of what is open. -/
theorem PMem.top {S : Nat → Prop} {w : World} {base g : Nat} {ts : List Tk} {tv ov nv rv : Value} {SN : List SNd} {σ : PS} (h : PMem S w base g ts tv ov nv rv SN σ) {x : Ent} {K : List Ent} (hx : σ.opn = x :: K) :
    ∃ b c, ov = .slice (some ⟨b, 0, none⟩) (K.length + 1) c ∧ K.length + 1 ≤ c ∧ c ≤ maxLen ∧ ∀ f, f < 8 → w.cell? ⟨b, K.length * 8 + f, none⟩ = (cellsE x)[f]? := by
  have ho := h.opn
  rw [hx, List.reverse_cons, List.length_cons] at ho
  obtain ⟨b, c, rfl, h1, h2, h3, h4⟩ := own_form8 ho (by omega)
  refine ⟨b, c, rfl, h3, h4, fun f hf => ?_⟩
  rw [ho.cellAt (K.length * 8 + f) (by omega)]
  have := rowE_at (K.reverse ++ [x]) K.length x (by rw [List.getElem?_append_right (by simp)]; simp) f hf
  exact this
def valE (x : Ent) : Value := .agg #[.int .i64 (x.kind : Int), .int .i64 x.lo, .int .i64 x.hi, .int .i64 (x.kids : Int), .int .i64 (x.level : Int), .string (Lex.bytes x.closer), .bool x.reg, .int .i64 (x.depth : Int)]
set_option maxHeartbeats 4000000 in
theorem landTop {S : Nat → Prop} (base g : Nat) (ts : List Tk) (σ : PS) (x : Ent) (K : List Ent) (w : World) (h : PMemE S w base g ts σ) (hx : σ.opn = x :: K) (hl : K.length ≤ 100000) :
    Calls Tryz.prog 61 #[.pointer (some ⟨g, 0, none⟩)] w fun e w' => e = .returned (.agg #[.int .i64 (x.kind : Int), .int .i64 x.lo, .int .i64 x.hi, .int .i64 (x.kids : Int), .int .i64 (x.level : Int), .string (Lex.bytes x.closer), .bool x.reg, .int .i64 (x.depth : Int)]) ∧ Below w.heap.size w w' := by
  obtain ⟨tv, ov, nv, rv, SN, h⟩ := h
  obtain ⟨b, c, rfl, hc, hm, hcell⟩ := h.top hx
  have c0 : ∀ o, (w.alloc o).cell? ⟨g, 4, none⟩ = _ := fun o => (h.blk.alloc o).cell 4 rfl
  have e0 : ∀ o, (w.alloc o).cell? ⟨b, K.length * 8, none⟩ = _ := fun o => Lib.cell?_alloc_marked o (hcell 0 (by omega))
  have e1 : ∀ o, (w.alloc o).cell? ⟨b, K.length * 8 + 1, none⟩ = _ := fun o => Lib.cell?_alloc_marked o (hcell 1 (by omega))
  have e2 : ∀ o, (w.alloc o).cell? ⟨b, K.length * 8 + 2, none⟩ = _ := fun o => Lib.cell?_alloc_marked o (hcell 2 (by omega))
  have e3 : ∀ o, (w.alloc o).cell? ⟨b, K.length * 8 + 3, none⟩ = _ := fun o => Lib.cell?_alloc_marked o (hcell 3 (by omega))
  have e4 : ∀ o, (w.alloc o).cell? ⟨b, K.length * 8 + 4, none⟩ = _ := fun o => Lib.cell?_alloc_marked o (hcell 4 (by omega))
  have e5 : ∀ o, (w.alloc o).cell? ⟨b, K.length * 8 + 5, none⟩ = _ := fun o => Lib.cell?_alloc_marked o (hcell 5 (by omega))
  have e6 : ∀ o, (w.alloc o).cell? ⟨b, K.length * 8 + 6, none⟩ = _ := fun o => Lib.cell?_alloc_marked o (hcell 6 (by omega))
  have e7 : ∀ o, (w.alloc o).cell? ⟨b, K.length * 8 + 7, none⟩ = _ := fun o => Lib.cell?_alloc_marked o (hcell 7 (by omega))
  obtain ⟨m, hml⟩ : ∃ m, K.length = m := ⟨_, rfl⟩
  rw [hml] at c0 e0 e1 e2 e3 e4 e5 e6 e7 hl
  have hj2 : (m : Int) < (m : Int) + 1 := by omega
  have hj3 : (0 : Int) ≤ (m : Int) := by omega
  have hj4 : (m : Int) ≤ 100000 := by omega
  clear h hx hl hc hm hcell hml
  go_enter Tryz.func61, Tryz.ntmps61
  go_wp2
  go_region
  go_wp2
  exact bodyPost_ret (v := .agg #[.int .i64 (x.kind : Int), .int .i64 x.lo, .int .i64 x.hi, .int .i64 (x.kids : Int), .int .i64 (x.level : Int), .string (Lex.bytes x.closer), .bool x.reg, .int .i64 (x.depth : Int)]) (by simp [results, Tryz.results61, go_sem]) rfl ⟨rfl, ((Below.refl _ _).alloc (Nat.le_refl _) _).drew⟩
set_option maxHeartbeats 2000000 in
theorem landDeep {S : Nat → Prop} (base g : Nat) (ts : List Tk) (σ : PS) (x : Ent) (K : List Ent) (w : World) (h : PMemE S w base g ts σ) (hx : σ.opn = x :: K) (hl : K.length ≤ 100000) :
    Calls Tryz.prog 91 #[.pointer (some ⟨g, 0, none⟩)] w fun e w' => e = .returned (.bool ((x.depth : Int) == 40)) ∧ Below w.heap.size w w' := by
  have HT := Lib.hid (landTop base g ts σ x K w h hx hl)
  have q6 := fieldE6 x.kind x.lo x.hi x.kids x.level (Lex.bytes x.closer) x.reg x.depth
  clear h hx hl
  go_enter Tryz.func91, Tryz.ntmps91
  go_wp2_with (go_at_call 61; refine HT.out.mono ?_; rintro e w1 ⟨rfl, hb⟩)
  go_ret
  exact ⟨rfl, hb⟩
set_option maxHeartbeats 2000000 in
theorem landCreate0 {S : Nat → Prop} (base g : Nat) (ts : List Tk) (σ : PS) (w : World) (h : PMemE S w base g ts σ) (hm : σ.made = 200) :
    Calls Tryz.prog 88 #[.pointer (some ⟨g, 0, none⟩)] w fun e w' => e = .returned (.int .i64 4) ∧ w' = w := by
  obtain ⟨tv, ov, nv, rv, SN, h⟩ := h
  have c3 := h.blk.cell 3 rfl
  rw [hm] at c3
  clear h hm
  go_enter Tryz.func88, Tryz.ntmps88
  go_wp2
  go_ret
  exact ⟨rfl, rfl⟩
set_option maxHeartbeats 2000000 in
theorem landCreate1 {S : Nat → Prop} (base g : Nat) (ts : List Tk) (σ : PS) (w : World) (h : PMemE S w base g ts σ) (hm : σ.made < 200) :
    Calls Tryz.prog 88 #[.pointer (some ⟨g, 0, none⟩)] w fun e w' => e = .returned (.int .i64 0) ∧ PMemE S w' base g ts { σ with made := σ.made + 1 } ∧ w.grownBy w' (some g) := by
  obtain ⟨tv, ov, nv, rv, SN, h⟩ := h
  have HM := Lib.hid h
  have c3 := h.blk.cell 3 rfl
  have f3 := h.blk.fz 3 rfl
  have hne : ((σ.made : Int) == 200) = false := beq_eq_false_iff_ne.2 (by omega)
  have hsm : (σ.made : Int) ≤ 200 := by omega
  clear h hm
  go_enter Tryz.func88, Tryz.ntmps88
  go_wp2
  go_ret
  exact ⟨rfl, ⟨tv, ov, nv, rv, SN, HM.out.store 3 _ rfl (by decide) HM.out.suf rfl rfl rfl⟩, ⟨rfl, rfl, rfl, by simp, fun i _ hne => Below.heap_setCell w ⟨g, 3, none⟩ _ i (fun e => hne (by rw [e]))⟩⟩
end Go.Proofs.YthcbgneoonekkaaGreatDoor.Parse

namespace Go.Proofs.YthcbgneoonekkaaGreatDoor.Parse
open Go.RowKit Go.Proofs.YthcbgneoonekkaaGreatDoor.Ints Go.Proofs.YthcbgneoonekkaaGreatDoor.Lex Go.Proofs.YthcbgneoonekkaaGreatDoor.Tree

/-- All blocks but one. -/
def Aw (bx : Option Nat) : Nat → Prop := fun b => some b ≠ bx
/-- What lies below base is as it was, and so is the one block. -/
structure Fr (bx : Option Nat) (base : Nat) (w w' : World) : Prop where
  below : Below base w w'
  far : ∀ b, bx = some b → b < w.heap.size → w'.heap[b]? = w.heap[b]?
theorem Fr.refl (bx : Option Nat) (base : Nat) (w : World) : Fr bx base w w := ⟨Below.refl _ _, fun _ _ _ => rfl⟩
theorem Fr.trans {bx : Option Nat} {base : Nat} {a b c : World} (h : Fr bx base a b) (k : Fr bx base b c) : Fr bx base a c :=
  ⟨h.below.trans k.below, fun x hx hl => (k.far x hx (Nat.lt_of_lt_of_le hl h.below.size)).trans (h.far x hx hl)⟩
theorem Fr.later {bx : Option Nat} {base : Nat} {w w' : World} (h : Below w.heap.size w w') (hb : base ≤ w.heap.size) : Fr bx base w w' := ⟨h.mono hb, fun b _ hl => h.block b hl⟩
theorem Fr.setCell {bx : Option Nat} {base : Nat} {a w : World} (h : Fr bx base a w) {p : Addr} (hp : base ≤ p.block) (hx : some p.block ≠ bx) (u : Value) : Fr bx base a (w.setCell p u) :=
  ⟨h.below.setCell hp u, fun b hb hl => (Below.heap_setCell w p u b (fun e => hx (by rw [hb, e]))).trans (h.far b hb hl)⟩
theorem Fr.grown {bx : Option Nat} {base : Nat} {a w w' : World} {row : Option Nat} (h : Fr bx base a w) (hg : w.grownBy w' row) (hb : base ≤ w.heap.size) (hr : ∀ k, row = some k → base ≤ k) (hx : ∀ k, row = some k → some k ≠ bx) : Fr bx base a w' :=
  ⟨h.below.grown hg hb hr, fun b hbx hl => (hg.block b (Nat.lt_of_lt_of_le hl h.below.size) (fun e => hx b e.symm hbx.symm)).trans (h.far b hbx hl)⟩
theorem Fr.alloc {bx : Option Nat} {base : Nat} {a w : World} (h : Fr bx base a w) (hb : base ≤ w.heap.size) (o : Obj) : Fr bx base a (w.alloc o).drew := h.trans (Fr.later ((Below.refl _ _).alloc (Nat.le_refl _) o).drew hb)
def Low (bx : Option Nat) (w : World) : Prop := ∀ b, bx = some b → b < w.heap.size
theorem Low.mono {bx : Option Nat} {w w' : World} (h : Low bx w) (hs : w.heap.size ≤ w'.heap.size) : Low bx w' := fun b hb => Nat.lt_of_lt_of_le (h b hb) hs
theorem aw_new {bx : Option Nat} {w : World} (h : Low bx w) {q : Nat} {v : Value} (hs : ∀ b, v.ownBlock = some b → Aw bx b) (hq : v.ownBlock = some q ∨ q = w.heap.size) : Aw bx q := by
  rcases hq with hq | hq
  · exact hs q hq
  · intro e
    have := h q e.symm
    omega
theorem own_ge {w : World} {base : Nat} {e : TypeId} {size : Nat} {v : Value} {n : Nat} {xs : List Value} (h : w.ownsRow base e size v n xs) {b : Nat} (hb : v.ownBlock = some b) : base ≤ b ∧ b < w.heap.size := h.lt b hb
/-- Toks of old are kept where only what lies at base or later has changed. -/
theorem toks_kept {w w' : World} {base : Nat} {tv : Value} {ts : List Tk} (h : Toks w tv ts) (hl : ∀ b, tv.ownBlock = some b → b < base) (hb : Below base w w') : Toks w' tv ts := by
  obtain ⟨A, c, h1, h2, h3⟩ := h
  refine ⟨A, c, h1, fun a ha => Nat.lt_of_lt_of_le (h2 a ha) hb.size, fun h0 => ?_⟩
  obtain ⟨b, h4, h5⟩ := h3 h0
  have hlt : b < base := hl b (by rw [h1, h4]; rfl)
  refine ⟨b, h4, fun j t ht => ?_⟩
  obtain ⟨c1, c2, c3, c4⟩ := h5 j t ht
  have key : ∀ (o : Nat) (v : Value), w.cell? ⟨b, o, none⟩ = some v → w'.cell? ⟨b, o, none⟩ = some v := fun o v hv => (hb.cell (p := ⟨b, o, none⟩) hlt).trans hv
  exact ⟨key _ _ c1, key _ _ c2, key _ _ c3, key _ _ c4⟩
theorem grown_base {w w' : World} {base : Nat} {row : Option Nat} (hg : w.grownBy w' row) (hb : base ≤ w.heap.size) (hr : ∀ b, row = some b → base ≤ b) : Below base w w' :=
  ⟨hg.os, hg.tape, hg.output, hg.size, fun i hi => hg.block i (by omega) (fun e => by have := hr i e.symm; omega)⟩
theorem new_none {v : Value} {q : Nat} {w : World} {base : Nat} {e : TypeId} {size : Nat} {u : Value} {n : Nat} {xs : List Value} (hu : w.ownsRow base e size u n xs) (h : noneOr v.ownBlock u.ownBlock) (hq : v.ownBlock = some q ∨ q = w.heap.size) : noneOr (some q) u.ownBlock := by
  refine Or.inr fun e' => ?_
  rcases hq with hq | hq
  · rcases h with h | h
    · rw [h] at hq; cases hq
    · exact h (hq.trans e')
  · have := (hu.lt q e'.symm).2
    omega
section
variable {bx : Option Nat} {w w3 : World} {base g q cap : Nat} {ts : List Tk} {tv ov nv rv : Value} {SN : List SNd} {σ : PS}
theorem PMem.new_g (h : PMem (Aw bx) w base g ts tv ov nv rv SN σ) {v : Value} (hv : v.ownBlock ≠ some g) (hq : v.ownBlock = some q ∨ q = w.heap.size) : q ≠ g := by
  rcases hq with hq | hq
  · exact ne_own hv hq
  · have := h.blk.1; omega
/-- The row of what is open has grown. -/
theorem PMem.push (h : PMem (Aw bx) w base g ts tv ov nv rv SN σ) (hlow : Low bx w) (x : Ent) {n : Nat} (hown : w3.ownsRow base 69 8 (.slice (some ⟨q, 0, none⟩) n cap) n (rowE (x :: σ.opn).reverse)) (hn : n = (x :: σ.opn).length) (hg : w.grownBy w3 ov.ownBlock) (hq : ov.ownBlock = some q ∨ q = w.heap.size) :
    PMem (Aw bx) (w3.setCell ⟨g, 4, none⟩ (.slice (some ⟨q, 0, none⟩) n cap)) base g ts tv (.slice (some ⟨q, 0, none⟩) n cap) nv rv SN { σ with opn := x :: σ.opn } := by
  subst hn
  have hqg := h.new_g h.og hq
  have hbase : base ≤ w.heap.size := h.hb
  have hb3 := grown_base hg hbase (fun b hb => (own_ge h.opn hb).1)
  have hb4 : Below base w (w3.setCell ⟨g, 4, none⟩ (.slice (some ⟨q, 0, none⟩) (x :: σ.opn).length cap)) := hb3.setCell (p := ⟨g, 4, none⟩) h.hg _
  have hgs : w3.grownBy (w3.setCell ⟨g, 4, none⟩ (.slice (some ⟨q, 0, none⟩) (x :: σ.opn).length cap)) (some g) := ⟨rfl, rfl, rfl, by simp, fun i _ hne => Below.heap_setCell w3 ⟨g, 4, none⟩ _ i (fun e => hne (by rw [e]))⟩
  have hblk := (h.blk.grown hg (fun e => h.og e.symm)).set 4 (.slice (some ⟨q, 0, none⟩) (x :: σ.opn).length cap) (by unfold cellsP; simp)
  have hn1 := (((h.nds.mono (S' := fun b => ((Off3 g ov rv b ∧ Aw bx b) ∧ b < w.heap.size)) fun b hb hp => ⟨hp, hb⟩).keep hg h.on.symm (fun b hb => hb.1.1.2.1)).keep hgs (Or.inr h.ng) (fun b hb e => hb.1.1.1 (by injection e)))
  refine ⟨hblk, h.hg, Nat.le_trans hbase hb4.size, toks_kept h.toks h.tlow hb4, h.tlow, h.suf, hown.kept hgs (Or.inr (fun e => hqg (by injection e))), hn1.mono fun b _ hp => ⟨⟨hp.1.1.1, fun e => ?_, hp.1.1.2.2⟩, hp.1.2⟩, h.ndl, (h.rts.kept hg h.or.symm).kept hgs (Or.inr h.rg), fun e => hqg (by injection e), h.ng, h.rg, new_none h.nds.1 h.on hq, new_none h.rts h.or hq, h.nr, h.sg, fun b hb => by (have hb : some q = some b := hb); injection hb with hb; rw [← hb]; exact aw_new hlow h.so hq, h.sn, h.sr⟩
  have e : b = q := by injection e
  rcases hq with hq | hq
  · exact hp.1.1.2.1 (by rw [hq, e])
  · have := hp.2; omega
/-- The innermost of what is open is struck. -/
theorem PMem.cut {n : Nat} (h : PMem (Aw bx) w base g ts tv (.slice (some ⟨q, 0, none⟩) (n + 1) cap) nv rv SN σ) {x : Ent} {K : List Ent} (hx : σ.opn = x :: K) (hn : K.length = n) :
    PMem (Aw bx) (w.setCell ⟨g, 4, none⟩ (.slice (some ⟨q, 0, none⟩) n cap)) base g ts tv (.slice (some ⟨q, 0, none⟩) n cap) nv rv SN { σ with opn := K } := by
  have hgs : w.grownBy (w.setCell ⟨g, 4, none⟩ (.slice (some ⟨q, 0, none⟩) n cap)) (some g) := ⟨rfl, rfl, rfl, by simp, fun i _ hne => Below.heap_setCell w ⟨g, 4, none⟩ _ i (fun e => hne (by rw [e]))⟩
  have hb4 : Below base w (w.setCell ⟨g, 4, none⟩ (.slice (some ⟨q, 0, none⟩) n cap)) := (Below.refl _ _).setCell (p := ⟨g, 4, none⟩) h.hg _
  have ho := h.opn
  rw [hx, List.length_cons, hn] at ho
  have ho2 := own_take (k := n) (n := n + 1) (size := 8) (xs := rowE (x :: K).reverse) (ys := rowE K.reverse) ho (by omega) (by
    rw [List.reverse_cons, rowE_snoc, List.take_append_of_le_length (by rw [rowE_len, List.length_reverse, hn]; exact Nat.le_refl _), List.take_of_length_le (by rw [rowE_len, List.length_reverse, hn]; exact Nat.le_refl _)])
  have hblk := h.blk.set 4 (.slice (some ⟨q, 0, none⟩) n cap) (by unfold cellsP; simp)
  subst hn
  exact ⟨hblk, h.hg, Nat.le_trans h.hb hb4.size, toks_kept h.toks h.tlow hb4, h.tlow, h.suf, ho2.kept hgs (Or.inr h.og), h.nds.keep hgs (Or.inr h.ng) (fun b hb e => hb.1.1 (by injection e)), h.ndl, h.rts.kept hgs (Or.inr h.rg), h.og, h.ng, h.rg, h.on, h.or, h.nr, h.sg, h.so, h.sn, h.sr⟩
/-- The row of roots has grown. -/
theorem PMem.root (h : PMem (Aw bx) w base g ts tv ov nv rv SN σ) (hlow : Low bx w) (zs : List Int) {n : Nat} (hown : w3.ownsRow base 3 1 (.slice (some ⟨q, 0, none⟩) n cap) n (zs.reverse.map (Value.int .i64))) (hn : n = zs.length) (hg : w.grownBy w3 rv.ownBlock) (hq : rv.ownBlock = some q ∨ q = w.heap.size) :
    PMem (Aw bx) (w3.setCell ⟨g, 6, none⟩ (.slice (some ⟨q, 0, none⟩) n cap)) base g ts tv ov nv (.slice (some ⟨q, 0, none⟩) n cap) SN { σ with roots := zs } := by
  subst hn
  have hqg := h.new_g h.rg hq
  have hbase : base ≤ w.heap.size := h.hb
  have hb3 := grown_base hg hbase (fun b hb => (own_ge h.rts hb).1)
  have hb4 : Below base w (w3.setCell ⟨g, 6, none⟩ (.slice (some ⟨q, 0, none⟩) zs.length cap)) := hb3.setCell (p := ⟨g, 6, none⟩) h.hg _
  have hgs : w3.grownBy (w3.setCell ⟨g, 6, none⟩ (.slice (some ⟨q, 0, none⟩) zs.length cap)) (some g) := ⟨rfl, rfl, rfl, by simp, fun i _ hne => Below.heap_setCell w3 ⟨g, 6, none⟩ _ i (fun e => hne (by rw [e]))⟩
  have hblk := (h.blk.grown hg (fun e => h.rg e.symm)).set 6 (.slice (some ⟨q, 0, none⟩) zs.length cap) (by unfold cellsP; simp)
  have hn1 := (((h.nds.mono (S' := fun b => ((Off3 g ov rv b ∧ Aw bx b) ∧ b < w.heap.size)) fun b hb hp => ⟨hp, hb⟩).keep hg h.nr (fun b hb => hb.1.1.2.2)).keep hgs (Or.inr h.ng) (fun b hb e => hb.1.1.1 (by injection e)))
  refine ⟨hblk, h.hg, Nat.le_trans hbase hb4.size, toks_kept h.toks h.tlow hb4, h.tlow, h.suf, (h.opn.kept hg h.or).kept hgs (Or.inr h.og), hn1.mono fun b _ hp => ⟨⟨hp.1.1.1, hp.1.1.2.1, fun e => ?_⟩, hp.1.2⟩, h.ndl, hown.kept hgs (Or.inr (fun e => hqg (by injection e))), h.og, h.ng, fun e => hqg (by injection e), h.on, (new_none h.opn h.or.symm hq).symm, (new_none h.nds.1 h.nr.symm hq).symm, h.sg, h.so, h.sn, fun b hb => by (have hb : some q = some b := hb); injection hb with hb; rw [← hb]; exact aw_new hlow h.sr hq⟩
  have e : b = q := by injection e
  rcases hq with hq | hq
  · exact hp.1.1.2.2 (by rw [hq, e])
  · have := hp.2; omega
/-- The row of nodes has grown. -/
theorem PMem.node (h : PMem (Aw bx) w base g ts tv ov nv rv SN σ) (hlow : Low bx w) (sn : SNd) (hown : OwnNodes (fun b => Off3 g ov rv b ∧ Aw bx b) w3 base (.slice (some ⟨q, 0, none⟩) (SN ++ [sn]).length cap) (SN ++ [sn])) (hg : w.grownBy w3 nv.ownBlock) (hq : nv.ownBlock = some q ∨ q = w.heap.size) :
    PMem (Aw bx) (w3.setCell ⟨g, 5, none⟩ (.slice (some ⟨q, 0, none⟩) (SN ++ [sn]).length cap)) base g ts tv ov (.slice (some ⟨q, 0, none⟩) (SN ++ [sn]).length cap) rv (SN ++ [sn]) { σ with nodes := σ.nodes ++ [sn.1] } := by
  have hqg := h.new_g h.ng hq
  have hbase : base ≤ w.heap.size := h.hb
  have hb3 := grown_base hg hbase (fun b hb => (own_ge h.nds.1 hb).1)
  have hb4 : Below base w (w3.setCell ⟨g, 5, none⟩ (.slice (some ⟨q, 0, none⟩) (SN ++ [sn]).length cap)) := hb3.setCell (p := ⟨g, 5, none⟩) h.hg _
  have hgs : w3.grownBy (w3.setCell ⟨g, 5, none⟩ (.slice (some ⟨q, 0, none⟩) (SN ++ [sn]).length cap)) (some g) := ⟨rfl, rfl, rfl, by simp, fun i _ hne => Below.heap_setCell w3 ⟨g, 5, none⟩ _ i (fun e => hne (by rw [e]))⟩
  have hblk := (h.blk.grown hg (fun e => h.ng e.symm)).set 5 (.slice (some ⟨q, 0, none⟩) (SN ++ [sn]).length cap) (by unfold cellsP; simp)
  have hn1 := (hown.keep hgs (Or.inr (fun e => hqg (by injection e))) (fun b hb e => hb.1.1 (by injection e)))
  exact ⟨hblk, h.hg, Nat.le_trans hbase hb4.size, toks_kept h.toks h.tlow hb4, h.tlow, h.suf, (h.opn.kept hg h.on).kept hgs (Or.inr h.og), hn1, by rw [List.map_append, h.ndl]; rfl, (h.rts.kept hg h.nr.symm).kept hgs (Or.inr h.rg), h.og, fun e => hqg (by injection e), h.rg, (new_none h.opn h.on.symm hq).symm, h.or, new_none h.rts h.nr hq, h.sg, h.so, fun b hb => by (have hb : some q = some b := hb); injection hb with hb; rw [← hb]; exact aw_new hlow h.sn hq, h.sr⟩
end
end Go.Proofs.YthcbgneoonekkaaGreatDoor.Parse
