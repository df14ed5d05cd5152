/-
  The walks of the landed reader's tok, top, deep, create. By an AI agent.
-/
import Derived.Test.YtbehlceacgaebaaParseMem
import Derived.RegionTactic
import Derived.ChangeAlike
import Derived.Deep.QuietTactic
import Derived.BigQuiet
import Derived.StillTailTactics
namespace Go.Proofs.Ytbehlceacgaebaa.Parse
open Go.RowKit Go.Proofs.Ytbehlceacgaebaa.Ints Go.Proofs.Ytbehlceacgaebaa.Lex Go.Proofs.Ytbehlceacgaebaa.Tree

/-! ### fields of values -/
theorem fieldE0 (a b c d e : Int) (s : ByteArray) (r : Bool) (f : Int) (w : World) : (Instr.field 41 (.agg #[.int .i64 a, .int .i64 b, .int .i64 c, .int .i64 d, .int .i64 e, .string s, .bool r, .int .i64 f]) 0).run Try.prog w = .ok (.int .i64 a) w := by kernel_rfl
theorem fieldE2 (a b c d e : Int) (s : ByteArray) (r : Bool) (f : Int) (w : World) : (Instr.field 41 (.agg #[.int .i64 a, .int .i64 b, .int .i64 c, .int .i64 d, .int .i64 e, .string s, .bool r, .int .i64 f]) 2).run Try.prog w = .ok (.int .i64 d) w := by kernel_rfl
theorem fieldE3 (a b c d e : Int) (s : ByteArray) (r : Bool) (f : Int) (w : World) : (Instr.field 41 (.agg #[.int .i64 a, .int .i64 b, .int .i64 c, .int .i64 d, .int .i64 e, .string s, .bool r, .int .i64 f]) 3).run Try.prog w = .ok (.int .i64 e) w := by kernel_rfl
theorem fieldE4 (a b c d e : Int) (s : ByteArray) (r : Bool) (f : Int) (w : World) : (Instr.field 41 (.agg #[.int .i64 a, .int .i64 b, .int .i64 c, .int .i64 d, .int .i64 e, .string s, .bool r, .int .i64 f]) 4).run Try.prog w = .ok (.string s) w := by kernel_rfl
theorem fieldE5 (a b c d e : Int) (s : ByteArray) (r : Bool) (f : Int) (w : World) : (Instr.field 41 (.agg #[.int .i64 a, .int .i64 b, .int .i64 c, .int .i64 d, .int .i64 e, .string s, .bool r, .int .i64 f]) 5).run Try.prog w = .ok (.bool r) w := by kernel_rfl
theorem fieldE6 (a b c d e : Int) (s : ByteArray) (r : Bool) (f : Int) (w : World) : (Instr.field 41 (.agg #[.int .i64 a, .int .i64 b, .int .i64 c, .int .i64 d, .int .i64 e, .string s, .bool r, .int .i64 f]) 6).run Try.prog w = .ok (.int .i64 f) w := by kernel_rfl
theorem fieldT0 (a : Int) (s : ByteArray) (c d : Int) (w : World) : (Instr.field 47 (.agg #[.int .i64 a, .string s, .int .i64 c, .int .i64 d]) 0).run Try.prog w = .ok (.int .i64 a) w := by kernel_rfl
theorem fieldT1 (a : Int) (s : ByteArray) (c d : Int) (w : World) : (Instr.field 47 (.agg #[.int .i64 a, .string s, .int .i64 c, .int .i64 d]) 1).run Try.prog w = .ok (.string s) w := by kernel_rfl
theorem fieldT2 (a : Int) (s : ByteArray) (c d : Int) (w : World) : (Instr.field 47 (.agg #[.int .i64 a, .string s, .int .i64 c, .int .i64 d]) 2).run Try.prog w = .ok (.int .i64 c) w := by kernel_rfl
theorem fieldT3 (a : Int) (s : ByteArray) (c d : Int) (w : World) : (Instr.field 47 (.agg #[.int .i64 a, .string s, .int .i64 c, .int .i64 d]) 3).run Try.prog w = .ok (.int .i64 d) w := by kernel_rfl

set_option maxHeartbeats 2000000 in
theorem landTok {S : Nat → Prop} (base g : Nat) (ts : List Tk) (σ : PS) (t : Tk) (r : List Tk) (w : World) (h : PMemE S w base g ts σ) (hr : σ.rest = t :: r) (hl : ts.length ≤ 5000) :
    Calls Try.prog 16 #[.pointer (some ⟨g, 0, none⟩)] w fun e w' => e = .returned (.agg #[.int .i64 (t.kind : Int), .string (Lex.bytes t.text), .int .i64 (t.num : Int), .int .i64 (t.pos : Int)]) ∧ Below w.heap.size w w' := by
  obtain ⟨tv, ov, nv, rv, SN, h⟩ := h
  obtain ⟨b, c, j, rfl, hj, hjl, d0, d1, d2, d3⟩ := h.tok hr
  have c0 : ∀ o, (w.alloc o).cell? ⟨g, 0, none⟩ = _ := fun o => (h.blk.alloc o).cell 0 rfl
  have c1 : ∀ o, (w.alloc o).cell? ⟨g, 1, none⟩ = _ := fun o => (h.blk.alloc o).cell 1 rfl
  rw [hj] at c1
  rw [Nat.mul_comm 4 j] at d0 d1 d2 d3
  have e0 : ∀ o, (w.alloc o).cell? ⟨b, j * 4, none⟩ = _ := fun o => Lib.cell?_alloc_marked o d0
  have e1 : ∀ o, (w.alloc o).cell? ⟨b, j * 4 + 1, none⟩ = _ := fun o => Lib.cell?_alloc_marked o d1
  have e2 : ∀ o, (w.alloc o).cell? ⟨b, j * 4 + 2, none⟩ = _ := fun o => Lib.cell?_alloc_marked o d2
  have e3 : ∀ o, (w.alloc o).cell? ⟨b, j * 4 + 3, none⟩ = _ := fun o => Lib.cell?_alloc_marked o d3
  have hj2 : (j : Int) < (ts.length : Int) := by omega
  have hj3 : (0 : Int) ≤ (j : Int) := by omega
  have HL := Lib.hid hl
  clear h hr hl d0 d1 d2 d3 hj
  go_enter Try.func16, Try.ntmps16
  go_wp2
  go_region
  go_wp2
  exact bodyPost_ret (v := .agg #[.int .i64 (t.kind : Int), .string (Lex.bytes t.text), .int .i64 (t.num : Int), .int .i64 (t.pos : Int)]) (by simp [results, Try.results16, go_sem]) rfl ⟨rfl, ((Below.refl _ _).alloc (Nat.le_refl _) _).drew⟩

/-- The innermost of what is open. -/
theorem PMem.top {S : Nat → Prop} {w : World} {base g : Nat} {ts : List Tk} {tv ov nv rv : Value} {SN : List SNd} {σ : PS} (h : PMem S w base g ts tv ov nv rv SN σ) {x : Ent} {K : List Ent} (hx : σ.opn = x :: K) :
    ∃ b c, ov = .slice (some ⟨b, 0, none⟩) (K.length + 1) c ∧ K.length + 1 ≤ c ∧ c ≤ maxLen ∧ ∀ f, f < 8 → w.cell? ⟨b, K.length * 8 + f, none⟩ = (cellsE x)[f]? := by
  have ho := h.opn
  rw [hx, List.reverse_cons, List.length_cons] at ho
  obtain ⟨b, c, rfl, h1, h2, h3, h4⟩ := own_form8 ho (by omega)
  refine ⟨b, c, rfl, h3, h4, fun f hf => ?_⟩
  rw [ho.cellAt (K.length * 8 + f) (by omega)]
  have := rowE_at (K.reverse ++ [x]) K.length x (by rw [List.getElem?_append_right (by simp)]; simp) f hf
  exact this
def valE (x : Ent) : Value := .agg #[.int .i64 (x.kind : Int), .int .i64 x.lo, .int .i64 x.hi, .int .i64 (x.kids : Int), .int .i64 (x.level : Int), .string (Lex.bytes x.closer), .bool x.reg, .int .i64 (x.depth : Int)]
set_option maxHeartbeats 4000000 in
theorem landTop {S : Nat → Prop} (base g : Nat) (ts : List Tk) (σ : PS) (x : Ent) (K : List Ent) (w : World) (h : PMemE S w base g ts σ) (hx : σ.opn = x :: K) (hl : K.length ≤ 100000) :
    Calls Try.prog 44 #[.pointer (some ⟨g, 0, none⟩)] w fun e w' => e = .returned (.agg #[.int .i64 (x.kind : Int), .int .i64 x.lo, .int .i64 x.hi, .int .i64 (x.kids : Int), .int .i64 (x.level : Int), .string (Lex.bytes x.closer), .bool x.reg, .int .i64 (x.depth : Int)]) ∧ Below w.heap.size w w' := by
  obtain ⟨tv, ov, nv, rv, SN, h⟩ := h
  obtain ⟨b, c, rfl, hc, hm, hcell⟩ := h.top hx
  have c0 : ∀ o, (w.alloc o).cell? ⟨g, 4, none⟩ = _ := fun o => (h.blk.alloc o).cell 4 rfl
  have e0 : ∀ o, (w.alloc o).cell? ⟨b, K.length * 8, none⟩ = _ := fun o => Lib.cell?_alloc_marked o (hcell 0 (by omega))
  have e1 : ∀ o, (w.alloc o).cell? ⟨b, K.length * 8 + 1, none⟩ = _ := fun o => Lib.cell?_alloc_marked o (hcell 1 (by omega))
  have e2 : ∀ o, (w.alloc o).cell? ⟨b, K.length * 8 + 2, none⟩ = _ := fun o => Lib.cell?_alloc_marked o (hcell 2 (by omega))
  have e3 : ∀ o, (w.alloc o).cell? ⟨b, K.length * 8 + 3, none⟩ = _ := fun o => Lib.cell?_alloc_marked o (hcell 3 (by omega))
  have e4 : ∀ o, (w.alloc o).cell? ⟨b, K.length * 8 + 4, none⟩ = _ := fun o => Lib.cell?_alloc_marked o (hcell 4 (by omega))
  have e5 : ∀ o, (w.alloc o).cell? ⟨b, K.length * 8 + 5, none⟩ = _ := fun o => Lib.cell?_alloc_marked o (hcell 5 (by omega))
  have e6 : ∀ o, (w.alloc o).cell? ⟨b, K.length * 8 + 6, none⟩ = _ := fun o => Lib.cell?_alloc_marked o (hcell 6 (by omega))
  have e7 : ∀ o, (w.alloc o).cell? ⟨b, K.length * 8 + 7, none⟩ = _ := fun o => Lib.cell?_alloc_marked o (hcell 7 (by omega))
  obtain ⟨m, hml⟩ : ∃ m, K.length = m := ⟨_, rfl⟩
  rw [hml] at c0 e0 e1 e2 e3 e4 e5 e6 e7 hl
  have hj2 : (m : Int) < (m : Int) + 1 := by omega
  have hj3 : (0 : Int) ≤ (m : Int) := by omega
  have hj4 : (m : Int) ≤ 100000 := by omega
  clear h hx hl hc hm hcell hml
  go_enter Try.func44, Try.ntmps44
  go_wp2
  go_region
  go_wp2
  exact bodyPost_ret (v := .agg #[.int .i64 (x.kind : Int), .int .i64 x.lo, .int .i64 x.hi, .int .i64 (x.kids : Int), .int .i64 (x.level : Int), .string (Lex.bytes x.closer), .bool x.reg, .int .i64 (x.depth : Int)]) (by simp [results, Try.results44, go_sem]) rfl ⟨rfl, ((Below.refl _ _).alloc (Nat.le_refl _) _).drew⟩
set_option maxHeartbeats 2000000 in
theorem landDeep {S : Nat → Prop} (base g : Nat) (ts : List Tk) (σ : PS) (x : Ent) (K : List Ent) (w : World) (h : PMemE S w base g ts σ) (hx : σ.opn = x :: K) (hl : K.length ≤ 100000) :
    Calls Try.prog 72 #[.pointer (some ⟨g, 0, none⟩)] w fun e w' => e = .returned (.bool ((x.depth : Int) == 40)) ∧ Below w.heap.size w w' := by
  have HT := Lib.hid (landTop base g ts σ x K w h hx hl)
  have q6 := fieldE6 x.kind x.lo x.hi x.kids x.level (Lex.bytes x.closer) x.reg x.depth
  clear h hx hl
  go_enter Try.func72, Try.ntmps72
  go_wp2_with (go_at_call 44; refine HT.out.mono ?_; rintro e w1 ⟨rfl, hb⟩)
  go_ret
  exact ⟨rfl, hb⟩
set_option maxHeartbeats 2000000 in
theorem landCreate0 {S : Nat → Prop} (base g : Nat) (ts : List Tk) (σ : PS) (w : World) (h : PMemE S w base g ts σ) (hm : σ.made = 200) :
    Calls Try.prog 69 #[.pointer (some ⟨g, 0, none⟩)] w fun e w' => e = .returned (.int .i64 4) ∧ w' = w := by
  obtain ⟨tv, ov, nv, rv, SN, h⟩ := h
  have c3 := h.blk.cell 3 rfl
  rw [hm] at c3
  clear h hm
  go_enter Try.func69, Try.ntmps69
  go_wp2
  go_ret
  exact ⟨rfl, rfl⟩
set_option maxHeartbeats 2000000 in
theorem landCreate1 {S : Nat → Prop} (base g : Nat) (ts : List Tk) (σ : PS) (w : World) (h : PMemE S w base g ts σ) (hm : σ.made < 200) :
    Calls Try.prog 69 #[.pointer (some ⟨g, 0, none⟩)] w fun e w' => e = .returned (.int .i64 0) ∧ PMemE S w' base g ts { σ with made := σ.made + 1 } ∧ w.grownBy w' (some g) := by
  obtain ⟨tv, ov, nv, rv, SN, h⟩ := h
  have HM := Lib.hid h
  have c3 := h.blk.cell 3 rfl
  have f3 := h.blk.fz 3 rfl
  have hne : ((σ.made : Int) == 200) = false := beq_eq_false_iff_ne.2 (by omega)
  have hsm : (σ.made : Int) ≤ 200 := by omega
  clear h hm
  go_enter Try.func69, Try.ntmps69
  go_wp2
  go_ret
  exact ⟨rfl, ⟨tv, ov, nv, rv, SN, HM.out.store 3 _ rfl (by decide) HM.out.suf rfl rfl rfl⟩, ⟨rfl, rfl, rfl, by simp, fun i _ hne => Below.heap_setCell w ⟨g, 3, none⟩ _ i (fun e => hne (by rw [e]))⟩⟩
end Go.Proofs.Ytbehlceacgaebaa.Parse
