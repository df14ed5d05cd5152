/-
  The walk of the reference's SameNodes. By an AI agent.
  The walks of the landed reader's tok, top, deep, create. By an AI agent.
-/
import Derived.Test.YtnoghlhggeffnaaDoorGParseMade2
import Derived.Test.YtnoghlhggeffnaaDoorGParseMade29
import Derived.Deep.RegionHeld3
import Derived.Test.YtnoghlhggeffnaaDoorGParseMade12
import Derived.RegionTactic
import Derived.ChangeAlike
import Derived.Deep.QuietTactic
import Derived.BigQuiet
import Derived.StillTailTactics
namespace Go.Proofs.YtnoghlhggeffnaaDoor.Tree
open Go.RowKit Go.Proofs.YtnoghlhggeffnaaDoor.Ints

theorem nd_eq (x y : Nd) : decide (x = y) = (decide (x.kind = y.kind) && (decide (x.name = y.name) && (decide (x.lo = y.lo ∧ x.hi = y.hi) && decide (x.kids = y.kids)))) := by
  cases x; cases y
  simp only [Nd.mk.injEq, Bool.decide_and, Bool.and_assoc]
theorem str_beq (a b : ByteArray) : (a.toList == b.toList) = decide (a = b) := by
  rw [Bool.eq_iff_iff, beq_iff_eq, decide_eq_true_iff, ByteArray.toList_eq, ByteArray.toList_eq]
  exact ⟨fun h => ByteArray.ext (Array.toList_inj.1 h), fun h => by rw [h]⟩
theorem nodes_ext {l m : List Nd} (hl : l.length = m.length) (h : ∀ j : Nat, j < l.length → l[j]? = m[j]?) : l = m := by
  apply List.ext_getElem?
  intro j
  by_cases hj : j < l.length
  · exact h j hj
  · rw [List.getElem?_eq_none (by omega), List.getElem?_eq_none (by omega)]

theorem same_no {a b : List Nd} {k : Nat} {x y : Nd} (hx : a[k]? = some x) (hy : b[k]? = some y) (h : x ≠ y) : decide (a = b) = false := by
  rw [decide_eq_false_iff_not]
  intro e
  rw [e, hy] at hx
  exact h (Option.some.inj hx).symm
theorem same_ways (x y : Nd) : ((x.kind != y.kind) = true ∧ x ≠ y) ∨ ((x.kind != y.kind) = false ∧ (x.name.toList == y.name.toList) = false ∧ (x.name.toList != y.name.toList) = true ∧ x ≠ y) ∨
    ((x.kind != y.kind) = false ∧ (x.name.toList == y.name.toList) = true ∧ (x.name.toList != y.name.toList) = false ∧ decide (x.lo = y.lo ∧ x.hi = y.hi) = false ∧ x ≠ y) ∨
    ((x.kind != y.kind) = false ∧ (x.name.toList == y.name.toList) = true ∧ (x.name.toList != y.name.toList) = false ∧ decide (x.lo = y.lo ∧ x.hi = y.hi) = true ∧ decide (x.kids = y.kids) = false ∧ x ≠ y) ∨
    ((x.kind != y.kind) = false ∧ (x.name.toList == y.name.toList) = true ∧ (x.name.toList != y.name.toList) = false ∧ decide (x.lo = y.lo ∧ x.hi = y.hi) = true ∧ decide (x.kids = y.kids) = true ∧ x = y) := by
  by_cases h1 : x.kind = y.kind
  · have e1 : (x.kind != y.kind) = false := by rw [h1]; simp
    by_cases h2 : x.name = y.name
    · have e2 : (x.name.toList == y.name.toList) = true := by rw [str_beq]; exact decide_eq_true h2
      have e2' : (x.name.toList != y.name.toList) = false := by rw [bne, e2]; rfl
      by_cases h3 : x.lo = y.lo ∧ x.hi = y.hi
      · by_cases h4 : x.kids = y.kids
        · refine Or.inr (Or.inr (Or.inr (Or.inr ⟨e1, e2, e2', decide_eq_true h3, decide_eq_true h4, ?_⟩)))
          cases x; cases y
          simp only at h1 h2 h3 h4
          rw [h1, h2, h3.1, h3.2, h4]
        · exact Or.inr (Or.inr (Or.inr (Or.inl ⟨e1, e2, e2', decide_eq_true h3, decide_eq_false h4, fun e => h4 (by rw [e])⟩)))
      · exact Or.inr (Or.inr (Or.inl ⟨e1, e2, e2', decide_eq_false h3, fun e => h3 (by rw [e]; exact ⟨rfl, rfl⟩)⟩))
    · have e2 : (x.name.toList == y.name.toList) = false := by rw [str_beq]; exact decide_eq_false h2
      exact Or.inr (Or.inl ⟨e1, e2, by rw [bne, e2]; rfl, fun e => h2 (by rw [e])⟩)
  · exact Or.inl ⟨bne_iff_ne.2 h1, fun e => h1 (by rw [e])⟩

set_option maxHeartbeats 8000000 in
set_option maxRecDepth 100000 in
theorem refSameNodes (A B : Option Addr) (n c m d : Nat) (a b : List Nd) (w : World) (ha : a.length = n) (hb : b.length = m) (hn : n ≤ 4194304) (hA : Nodes Any w A a) (hB : Nodes Any w B b) :
    Calls Tryd.prog 11 #[.slice A n c, .slice B m d] w fun e w' => e = .returned (.bool (decide (a = b))) ∧ Below w.heap.size w w' := by
  have hni : (n : Int) ≤ 4194304 := by omega
  have HLA := Lib.hid ha
  have HLB := Lib.hid hb
  have HNA := Lib.hid hA
  have HNB := Lib.hid hB
  clear ha hb hA hB hn
  by_cases hnm : n = m
  · subst hnm
    have hne : ((n : Int) != (n : Int)) = false := by simp
    go_enter Tryd.func11, Tryd.ntmps11
    go_wp2
    go_loopw [15] (fun i wr => ∃ k : Nat, k ≤ n ∧ i = .int .i64 k ∧ Below w.heap.size w wr ∧ Hid (∀ j : Nat, j < k → a[j]? = b[j]?)) (fun i _ => n - (intOf i).toNat)
    case atStart => exact ⟨0, Nat.zero_le _, rfl, Below.refl _ _, fun j hj => absurd hj (by omega)⟩
    case round =>
      obtain ⟨k, hk, rfl, hB, HZ⟩ := hrel
      have HB := Lib.hid hB
      clear hB
      by_cases hkn : k < n
      · have hkn' : (k : Int) < (n : Int) := by omega
        have hk0 : (0 : Int) ≤ (k : Int) := by omega
        obtain ⟨b1, off1, e1, hn1⟩ := (HNA.out.below HB.out) (by have := HLA.out; omega)
        obtain ⟨b2, off2, e2, hn2⟩ := (HNB.out.below HB.out) (by have := HLB.out; omega)
        obtain ⟨x, hx⟩ : ∃ x, a[k]? = some x := ⟨_, List.getElem?_eq_getElem (by have := HLA.out; omega)⟩
        obtain ⟨y, hy⟩ : ∃ y, b[k]? = some y := ⟨_, List.getElem?_eq_getElem (by have := HLB.out; omega)⟩
        obtain ⟨x0, x1, x2, x3, -, -, -, -, K1, c1, x4, hK1, hKc1, hcK1, -, -⟩ := hn1 k x hx
        obtain ⟨y0, y1, y2, y3, -, -, -, -, K2, c2, y4, hK2, hKc2, hcK2, -, -⟩ := hn2 k y hy
        rw [Nat.mul_comm 5 k] at x0 x1 x2 x3 x4 y0 y1 y2 y3 y4
        have HX := Lib.hid hx
        have HY := Lib.hid hy
        have HEQ := Lib.hid (fun W (hb : Below wr.heap.size wr W) => equalInts K1 K2 x.kids.length c1 y.kids.length c2 x.kids y.kids W (hK1.below hb) (hK2.below hb) (Nat.le_trans hKc1 hcK1) (Nat.le_trans hKc2 hcK2))
        subst e1
        subst e2
        clear hn1 hn2 hx hy hK1 hK2 hKc1 hKc2 hcK1 hcK2
        go_wp2
        go_region_held3 (fun w' => w'.cell? ⟨b1, off1 + k * 5, none⟩ = some (.int .i64 x.kind) ∧ w'.cell? ⟨b1, off1 + k * 5 + 1, none⟩ = some (.string x.name) ∧ w'.cell? ⟨b1, off1 + k * 5 + 2, none⟩ = some (.int .i64 x.lo) ∧ w'.cell? ⟨b1, off1 + k * 5 + 3, none⟩ = some (.int .i64 x.hi) ∧ w'.cell? ⟨b1, off1 + k * 5 + 4, none⟩ = some (.slice K1 x.kids.length c1) ∧
            w'.cell? ⟨b2, off2 + k * 5, none⟩ = some (.int .i64 y.kind) ∧ w'.cell? ⟨b2, off2 + k * 5 + 1, none⟩ = some (.string y.name) ∧ w'.cell? ⟨b2, off2 + k * 5 + 2, none⟩ = some (.int .i64 y.lo) ∧ w'.cell? ⟨b2, off2 + k * 5 + 3, none⟩ = some (.int .i64 y.hi) ∧ w'.cell? ⟨b2, off2 + k * 5 + 4, none⟩ = some (.slice K2 y.kids.length c2)) (go_keep) (fail)
        all_goals
          rcases same_ways x y with ⟨hk, h⟩ | ⟨hk, hm1, hm2, h⟩ | ⟨hk, hm1, hm2, hsp, h⟩ | ⟨hk, hm1, hm2, hsp, hkd, h⟩ | ⟨hk, hm1, hm2, hsp, hkd, h⟩
          · have HR := Lib.hid (same_no HX.out HY.out h)
            clear h
            go_wp2
            go_ret
            exact ⟨by rw [HR.out]; rfl, (((HB.out.alloc HB.out.size _).alloc (le_alloc HB.out.size) _)).drew⟩
          · have HR := Lib.hid (same_no HX.out HY.out h)
            clear h
            go_wp2
            go_ret
            exact ⟨by rw [HR.out]; rfl, (((HB.out.alloc HB.out.size _).alloc (le_alloc HB.out.size) _)).drew⟩
          · have HR := Lib.hid (same_no HX.out HY.out h)
            have hsq := fun W => span_neq x.lo x.hi y.lo y.hi W
            rw [hsp] at hsq
            have hgs := guardSpan
            clear h hsp
            go_wp2
            go_ret
            exact ⟨by rw [HR.out]; rfl, (((HB.out.alloc HB.out.size _).alloc (le_alloc HB.out.size) _)).drew⟩
          · have HR := Lib.hid (same_no HX.out HY.out h)
            have hsq := fun W => span_neq x.lo x.hi y.lo y.hi W
            rw [hsp] at hsq
            have hgs := guardSpan
            rw [hkd] at HEQ
            clear h hsp hkd
            go_wp2_with (go_at_call 20; refine (HEQ.out _ (((Below.refl _ _).alloc (Nat.le_refl _) _).alloc (le_alloc (Nat.le_refl _)) _ |>.drew)).mono ?_; rintro e w' ⟨rfl, q, rfl⟩)
            go_ret
            exact ⟨by rw [HR.out]; rfl, below_drewN ((HB.out.alloc HB.out.size _).alloc (le_alloc HB.out.size) _) _⟩
          · have HZ2 := Lib.hid (show ∀ j : Nat, j < k + 1 → a[j]? = b[j]? from fun j hj => by
              by_cases hjk : j = k
              · rw [hjk, HX.out, HY.out, h]
              · exact HZ.out j (by omega))
            have hsq := fun W => span_neq x.lo x.hi y.lo y.hi W
            rw [hsp] at hsq
            have hgs := guardSpan
            rw [hkd] at HEQ
            clear h hsp hkd
            go_wp2_with (go_at_call 20; refine (HEQ.out _ (((Below.refl _ _).alloc (Nat.le_refl _) _).alloc (le_alloc (Nat.le_refl _)) _ |>.drew)).mono ?_; rintro e w' ⟨rfl, q, rfl⟩)
            go_roundw
            case rel => exact ⟨k + 1, by omega, by go_num, below_drewN ((HB.out.alloc HB.out.size _).alloc (le_alloc HB.out.size) _) _, HZ2⟩
            case measure => simp [intOf]; omega
      · have hge : decide ((k : Int) < (n : Int)) = false := by simp; omega
        have HR := Lib.hid (show decide (a = b) = true from decide_eq_true (nodes_ext (by rw [HLA.out, HLB.out]) (fun j hj => HZ.out j (by have := HLA.out; omega))))
        go_wp2
        go_ret
        exact ⟨by rw [HR.out]; rfl, HB.out⟩
  · have hne : ((n : Int) != (m : Int)) = true := by simp; omega
    have HR := Lib.hid (show decide (a = b) = false from decide_eq_false fun e => hnm (by rw [← HLA.out, ← HLB.out, e]))
    clear hnm
    go_enter Tryd.func11, Tryd.ntmps11
    go_wp2
    go_ret
    exact ⟨by rw [HR.out]; rfl, Below.refl _ _⟩
end Go.Proofs.YtnoghlhggeffnaaDoor.Tree

namespace Go.Proofs.YtnoghlhggeffnaaDoor.Parse
open Go.RowKit Go.Proofs.YtnoghlhggeffnaaDoor.Ints Go.Proofs.YtnoghlhggeffnaaDoor.Lex Go.Proofs.YtnoghlhggeffnaaDoor.Tree

/-! ### fields of values -/
theorem fieldE0 (a b c d e : Int) (s : ByteArray) (r : Bool) (f : Int) (w : World) : (Instr.field 62 (.agg #[.int .i64 a, .int .i64 b, .int .i64 c, .int .i64 d, .int .i64 e, .string s, .bool r, .int .i64 f]) 0).run Tryd.prog w = .ok (.int .i64 a) w := by kernel_rfl
theorem fieldE2 (a b c d e : Int) (s : ByteArray) (r : Bool) (f : Int) (w : World) : (Instr.field 62 (.agg #[.int .i64 a, .int .i64 b, .int .i64 c, .int .i64 d, .int .i64 e, .string s, .bool r, .int .i64 f]) 2).run Tryd.prog w = .ok (.int .i64 d) w := by kernel_rfl
theorem fieldE3 (a b c d e : Int) (s : ByteArray) (r : Bool) (f : Int) (w : World) : (Instr.field 62 (.agg #[.int .i64 a, .int .i64 b, .int .i64 c, .int .i64 d, .int .i64 e, .string s, .bool r, .int .i64 f]) 3).run Tryd.prog w = .ok (.int .i64 e) w := by kernel_rfl
theorem fieldE4 (a b c d e : Int) (s : ByteArray) (r : Bool) (f : Int) (w : World) : (Instr.field 62 (.agg #[.int .i64 a, .int .i64 b, .int .i64 c, .int .i64 d, .int .i64 e, .string s, .bool r, .int .i64 f]) 4).run Tryd.prog w = .ok (.string s) w := by kernel_rfl
theorem fieldE5 (a b c d e : Int) (s : ByteArray) (r : Bool) (f : Int) (w : World) : (Instr.field 62 (.agg #[.int .i64 a, .int .i64 b, .int .i64 c, .int .i64 d, .int .i64 e, .string s, .bool r, .int .i64 f]) 5).run Tryd.prog w = .ok (.bool r) w := by kernel_rfl
theorem fieldE6 (a b c d e : Int) (s : ByteArray) (r : Bool) (f : Int) (w : World) : (Instr.field 62 (.agg #[.int .i64 a, .int .i64 b, .int .i64 c, .int .i64 d, .int .i64 e, .string s, .bool r, .int .i64 f]) 6).run Tryd.prog w = .ok (.int .i64 f) w := by kernel_rfl
theorem fieldT0 (a : Int) (s : ByteArray) (c d : Int) (w : World) : (Instr.field 68 (.agg #[.int .i64 a, .string s, .int .i64 c, .int .i64 d]) 0).run Tryd.prog w = .ok (.int .i64 a) w := by kernel_rfl
theorem fieldT1 (a : Int) (s : ByteArray) (c d : Int) (w : World) : (Instr.field 68 (.agg #[.int .i64 a, .string s, .int .i64 c, .int .i64 d]) 1).run Tryd.prog w = .ok (.string s) w := by kernel_rfl
theorem fieldT2 (a : Int) (s : ByteArray) (c d : Int) (w : World) : (Instr.field 68 (.agg #[.int .i64 a, .string s, .int .i64 c, .int .i64 d]) 2).run Tryd.prog w = .ok (.int .i64 c) w := by kernel_rfl
theorem fieldT3 (a : Int) (s : ByteArray) (c d : Int) (w : World) : (Instr.field 68 (.agg #[.int .i64 a, .string s, .int .i64 c, .int .i64 d]) 3).run Tryd.prog w = .ok (.int .i64 d) w := by kernel_rfl

set_option maxHeartbeats 2000000 in
theorem landTok {S : Nat → Prop} (base g : Nat) (ts : List Tk) (σ : PS) (t : Tk) (r : List Tk) (w : World) (h : PMemE S w base g ts σ) (hr : σ.rest = t :: r) (hl : ts.length ≤ 5000) :
    Calls Tryd.prog 33 #[.pointer (some ⟨g, 0, none⟩)] w fun e w' => e = .returned (.agg #[.int .i64 (t.kind : Int), .string (Lex.bytes t.text), .int .i64 (t.num : Int), .int .i64 (t.pos : Int)]) ∧ Below w.heap.size w w' := by
  obtain ⟨tv, ov, nv, rv, SN, h⟩ := h
  obtain ⟨b, c, j, rfl, hj, hjl, d0, d1, d2, d3⟩ := h.tok hr
  have c0 : ∀ o, (w.alloc o).cell? ⟨g, 0, none⟩ = _ := fun o => (h.blk.alloc o).cell 0 rfl
  have c1 : ∀ o, (w.alloc o).cell? ⟨g, 1, none⟩ = _ := fun o => (h.blk.alloc o).cell 1 rfl
  rw [hj] at c1
  rw [Nat.mul_comm 4 j] at d0 d1 d2 d3
  have e0 : ∀ o, (w.alloc o).cell? ⟨b, j * 4, none⟩ = _ := fun o => Lib.cell?_alloc_marked o d0
  have e1 : ∀ o, (w.alloc o).cell? ⟨b, j * 4 + 1, none⟩ = _ := fun o => Lib.cell?_alloc_marked o d1
  have e2 : ∀ o, (w.alloc o).cell? ⟨b, j * 4 + 2, none⟩ = _ := fun o => Lib.cell?_alloc_marked o d2
  have e3 : ∀ o, (w.alloc o).cell? ⟨b, j * 4 + 3, none⟩ = _ := fun o => Lib.cell?_alloc_marked o d3
  have hj2 : (j : Int) < (ts.length : Int) := by omega
  have hj3 : (0 : Int) ≤ (j : Int) := by omega
  have HL := Lib.hid hl
  clear h hr hl d0 d1 d2 d3 hj
  go_enter Tryd.func33, Tryd.ntmps33
  go_wp2
  go_region
  go_wp2
  exact bodyPost_ret (v := .agg #[.int .i64 (t.kind : Int), .string (Lex.bytes t.text), .int .i64 (t.num : Int), .int .i64 (t.pos : Int)]) (by simp [results, Tryd.results33, go_sem]) rfl ⟨rfl, ((Below.refl _ _).alloc (Nat.le_refl _) _).drew⟩

/-- The innermost of what is open. -/
theorem PMem.top {S : Nat → Prop} {w : World} {base g : Nat} {ts : List Tk} {tv ov nv rv : Value} {SN : List SNd} {σ : PS} (h : PMem S w base g ts tv ov nv rv SN σ) {x : Ent} {K : List Ent} (hx : σ.opn = x :: K) :
    ∃ b c, ov = .slice (some ⟨b, 0, none⟩) (K.length + 1) c ∧ K.length + 1 ≤ c ∧ c ≤ maxLen ∧ ∀ f, f < 8 → w.cell? ⟨b, K.length * 8 + f, none⟩ = (cellsE x)[f]? := by
  have ho := h.opn
  rw [hx, List.reverse_cons, List.length_cons] at ho
  obtain ⟨b, c, rfl, h1, h2, h3, h4⟩ := own_form8 ho (by omega)
  refine ⟨b, c, rfl, h3, h4, fun f hf => ?_⟩
  rw [ho.cellAt (K.length * 8 + f) (by omega)]
  have := rowE_at (K.reverse ++ [x]) K.length x (by rw [List.getElem?_append_right (by simp)]; simp) f hf
  exact this
def valE (x : Ent) : Value := .agg #[.int .i64 (x.kind : Int), .int .i64 x.lo, .int .i64 x.hi, .int .i64 (x.kids : Int), .int .i64 (x.level : Int), .string (Lex.bytes x.closer), .bool x.reg, .int .i64 (x.depth : Int)]
set_option maxHeartbeats 4000000 in
theorem landTop {S : Nat → Prop} (base g : Nat) (ts : List Tk) (σ : PS) (x : Ent) (K : List Ent) (w : World) (h : PMemE S w base g ts σ) (hx : σ.opn = x :: K) (hl : K.length ≤ 100000) :
    Calls Tryd.prog 58 #[.pointer (some ⟨g, 0, none⟩)] w fun e w' => e = .returned (.agg #[.int .i64 (x.kind : Int), .int .i64 x.lo, .int .i64 x.hi, .int .i64 (x.kids : Int), .int .i64 (x.level : Int), .string (Lex.bytes x.closer), .bool x.reg, .int .i64 (x.depth : Int)]) ∧ Below w.heap.size w w' := by
  obtain ⟨tv, ov, nv, rv, SN, h⟩ := h
  obtain ⟨b, c, rfl, hc, hm, hcell⟩ := h.top hx
  have c0 : ∀ o, (w.alloc o).cell? ⟨g, 4, none⟩ = _ := fun o => (h.blk.alloc o).cell 4 rfl
  have e0 : ∀ o, (w.alloc o).cell? ⟨b, K.length * 8, none⟩ = _ := fun o => Lib.cell?_alloc_marked o (hcell 0 (by omega))
  have e1 : ∀ o, (w.alloc o).cell? ⟨b, K.length * 8 + 1, none⟩ = _ := fun o => Lib.cell?_alloc_marked o (hcell 1 (by omega))
  have e2 : ∀ o, (w.alloc o).cell? ⟨b, K.length * 8 + 2, none⟩ = _ := fun o => Lib.cell?_alloc_marked o (hcell 2 (by omega))
  have e3 : ∀ o, (w.alloc o).cell? ⟨b, K.length * 8 + 3, none⟩ = _ := fun o => Lib.cell?_alloc_marked o (hcell 3 (by omega))
  have e4 : ∀ o, (w.alloc o).cell? ⟨b, K.length * 8 + 4, none⟩ = _ := fun o => Lib.cell?_alloc_marked o (hcell 4 (by omega))
  have e5 : ∀ o, (w.alloc o).cell? ⟨b, K.length * 8 + 5, none⟩ = _ := fun o => Lib.cell?_alloc_marked o (hcell 5 (by omega))
  have e6 : ∀ o, (w.alloc o).cell? ⟨b, K.length * 8 + 6, none⟩ = _ := fun o => Lib.cell?_alloc_marked o (hcell 6 (by omega))
  have e7 : ∀ o, (w.alloc o).cell? ⟨b, K.length * 8 + 7, none⟩ = _ := fun o => Lib.cell?_alloc_marked o (hcell 7 (by omega))
  obtain ⟨m, hml⟩ : ∃ m, K.length = m := ⟨_, rfl⟩
  rw [hml] at c0 e0 e1 e2 e3 e4 e5 e6 e7 hl
  have hj2 : (m : Int) < (m : Int) + 1 := by omega
  have hj3 : (0 : Int) ≤ (m : Int) := by omega
  have hj4 : (m : Int) ≤ 100000 := by omega
  clear h hx hl hc hm hcell hml
  go_enter Tryd.func58, Tryd.ntmps58
  go_wp2
  go_region
  go_wp2
  exact bodyPost_ret (v := .agg #[.int .i64 (x.kind : Int), .int .i64 x.lo, .int .i64 x.hi, .int .i64 (x.kids : Int), .int .i64 (x.level : Int), .string (Lex.bytes x.closer), .bool x.reg, .int .i64 (x.depth : Int)]) (by simp [results, Tryd.results58, go_sem]) rfl ⟨rfl, ((Below.refl _ _).alloc (Nat.le_refl _) _).drew⟩
set_option maxHeartbeats 2000000 in
theorem landDeep {S : Nat → Prop} (base g : Nat) (ts : List Tk) (σ : PS) (x : Ent) (K : List Ent) (w : World) (h : PMemE S w base g ts σ) (hx : σ.opn = x :: K) (hl : K.length ≤ 100000) :
    Calls Tryd.prog 86 #[.pointer (some ⟨g, 0, none⟩)] w fun e w' => e = .returned (.bool ((x.depth : Int) == 40)) ∧ Below w.heap.size w w' := by
  have HT := Lib.hid (landTop base g ts σ x K w h hx hl)
  have q6 := fieldE6 x.kind x.lo x.hi x.kids x.level (Lex.bytes x.closer) x.reg x.depth
  clear h hx hl
  go_enter Tryd.func86, Tryd.ntmps86
  go_wp2_with (go_at_call 58; refine HT.out.mono ?_; rintro e w1 ⟨rfl, hb⟩)
  go_ret
  exact ⟨rfl, hb⟩
set_option maxHeartbeats 2000000 in
theorem landCreate0 {S : Nat → Prop} (base g : Nat) (ts : List Tk) (σ : PS) (w : World) (h : PMemE S w base g ts σ) (hm : σ.made = 200) :
    Calls Tryd.prog 83 #[.pointer (some ⟨g, 0, none⟩)] w fun e w' => e = .returned (.int .i64 4) ∧ w' = w := by
  obtain ⟨tv, ov, nv, rv, SN, h⟩ := h
  have c3 := h.blk.cell 3 rfl
  rw [hm] at c3
  clear h hm
  go_enter Tryd.func83, Tryd.ntmps83
  go_wp2
  go_ret
  exact ⟨rfl, rfl⟩
set_option maxHeartbeats 2000000 in
theorem landCreate1 {S : Nat → Prop} (base g : Nat) (ts : List Tk) (σ : PS) (w : World) (h : PMemE S w base g ts σ) (hm : σ.made < 200) :
    Calls Tryd.prog 83 #[.pointer (some ⟨g, 0, none⟩)] w fun e w' => e = .returned (.int .i64 0) ∧ PMemE S w' base g ts { σ with made := σ.made + 1 } ∧ w.grownBy w' (some g) := by
  obtain ⟨tv, ov, nv, rv, SN, h⟩ := h
  have HM := Lib.hid h
  have c3 := h.blk.cell 3 rfl
  have f3 := h.blk.fz 3 rfl
  have hne : ((σ.made : Int) == 200) = false := beq_eq_false_iff_ne.2 (by omega)
  have hsm : (σ.made : Int) ≤ 200 := by omega
  clear h hm
  go_enter Tryd.func83, Tryd.ntmps83
  go_wp2
  go_ret
  exact ⟨rfl, ⟨tv, ov, nv, rv, SN, HM.out.store 3 _ rfl (by decide) HM.out.suf rfl rfl rfl⟩, ⟨rfl, rfl, rfl, by simp, fun i _ hne => Below.heap_setCell w ⟨g, 3, none⟩ _ i (fun e => hne (by rw [e]))⟩⟩
end Go.Proofs.YtnoghlhggeffnaaDoor.Parse
