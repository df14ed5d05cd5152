/-
  The walk of the reference's makes. The walk of the reference's number.
    Made of several texts by wip/tools/mergetpl.py. By an AI agent.
-/
import Derived.Test.YtnoghlhggeffnaaGreatDoorGParseSpoilt26
/- The walk of the reference's makes. By an AI agent. -/
namespace Go.Proofs.YtnoghlhggeffnaaGreatDoor.Parse
open Go.RowKit Go.Proofs.YtnoghlhggeffnaaGreatDoor.Ints Go.Proofs.YtnoghlhggeffnaaGreatDoor.Lex Go.Proofs.YtnoghlhggeffnaaGreatDoor.Tree

theorem makes_flat {node : Bool} {t : Tk} {r : List Tk} {σ : RS} (he : σ.err = 0) : makesR node false t r σ = if node = true then nodeR t r σ else { σ with rest := r } := by
  unfold makesR
  simp [he]
theorem makes_down {node : Bool} {t : Tk} {r : List Tk} {σ : RS} (he : σ.err = 0) (h : σ.deep + 1 ≤ 40) : makesR node true t r σ = if node = true then nodeR t r { σ with deep := σ.deep + 1 } else { σ with deep := σ.deep + 1, rest := r } := by
  unfold makesR downR
  simp [he, h]
theorem makes_over {node : Bool} {t : Tk} {r : List Tk} {σ : RS} (h : ¬ σ.deep + 1 ≤ 40) : makesR node true t r σ = { σ with deep := σ.deep + 1, err := 3, wh := t.pos } := by
  unfold makesR downR
  simp [h]

set_option maxHeartbeats 8000000 in
theorem refMakes_true_false {Pr : Nat → Prop} (base g : Nat) (ts : List Tk) (σ : RS) (t : Tk) (r : List Tk) (d : Nat) (w : World) (h : RMemE Pr w base g ts σ) (he : σ.err = 0) (hr : σ.rest = t :: r) (hl : ts.length ≤ 5000) (hd : σ.deep = (d : Int)) (hd40 : d ≤ 40) (hm : σ.made ≤ 200) :
    Calls Tryz.prog 57 #[.pointer (some ⟨g, 0, none⟩), .bool true, .bool false] w fun e w' => e = .returned (.tuple #[]) ∧ RMemE Pr w' base g ts (makesR true false t r σ) ∧ w.grownBy w' (some g) := by
  obtain ⟨tv, lv, SN, h⟩ := h
  have HM := Lib.hid h
  have HE := Lib.hid he
  have HR := Lib.hid hr
  have HL := Lib.hid hl
  have HD := Lib.hid hd
  have c1 := h.blk.cell 1 rfl
  have c3 := h.blk.cell 3 rfl
  have c4 := h.blk.cell 4 rfl
  have c5 := h.blk.cell 5 rfl
  have f1 := h.blk.fz 1 rfl
  have f3 := h.blk.fz 3 rfl
  have f4 := h.blk.fz 4 rfl
  rw [he] at c5
  rw [hd] at c4
  obtain ⟨j, hj⟩ : ∃ j, ts.length - σ.rest.length = j := ⟨_, rfl⟩
  rw [hj] at c1
  have HJ := Lib.hid hj
  have hj5 : (j : Int) ≤ 5000 := by omega
  have hj0 : (0 : Int) ≤ (j : Int) := by omega
  obtain ⟨m, hmm⟩ : ∃ m, σ.made = m := ⟨_, rfl⟩
  rw [hmm] at c3 hm
  have HMM := Lib.hid hmm
  have hd4i : (d : Int) ≤ 40 := by omega
  have hd0i : (0 : Int) ≤ (d : Int) := by omega
  have hm2i : (m : Int) ≤ 200 := by omega
  have hm0i : (0 : Int) ≤ (m : Int) := by omega
  clear h he hr hl hd hj hmm
  by_cases h200 : m = 200
  · have HEQ := Lib.hid (show makesR true false t r σ = { σ with made := σ.made + 1, err := 4, wh := t.pos } by rw [makes_flat (σ := σ) HE.out, if_pos rfl]; unfold nodeR; rw [if_neg (by show ¬ σ.made + 1 ≤ 200; rw [HMM.out]; omega)])
    have hgn : (200 : Int) < (m : Int) + 1 := by omega
    have H2 := Lib.hid (RMem.store (σ' := { σ with made := σ.made + 1 }) HM.out 3 (.int .i64 ((m : Int) + 1)) (by unfold cellsR; simp only [List.set]; rw [show ((σ.made + 1 : Nat) : Int) = (m : Int) + 1 by rw [HMM.out]; omega]) (by decide) HM.out.suf rfl)
    clear h200
    go_enter Tryz.func57, Tryz.ntmps57
    go_wp2_with fail
    refine (refBad0 base g ts ({ σ with made := σ.made + 1 }) t r 4 _ ⟨_, _, _, H2.out⟩ HE.out HR.out HL.out).mono ?_
    rintro e w2 ⟨rfl, hm2, hg2⟩
    have HM2 := Lib.hid hm2
    have HG2 := Lib.hid (grown_trans (grown_one g 3 _) hg2)
    clear hm2 hg2
    go_wp2_with fail
    refine bodyPost_ret (v := .tuple #[]) (by simp [results, Tryz.results57, go_sem]) rfl ?_
    rw [HEQ.out]
    exact ⟨rfl, HM2.out, HG2.out⟩
  · have hgn : decide ((200 : Int) < (m : Int) + 1) = false := decide_eq_false (by omega)
    have HEQ := Lib.hid (show makesR true false t r σ = { σ with made := σ.made + 1, rest := r } by rw [makes_flat (σ := σ) HE.out, if_pos rfl]; unfold nodeR; rw [if_pos (by show σ.made + 1 ≤ 200; rw [HMM.out]; omega)])
    have H2 := Lib.hid (RMem.store (σ' := { σ with made := σ.made + 1 }) HM.out 3 (.int .i64 ((m : Int) + 1)) (by unfold cellsR; simp only [List.set]; rw [show ((σ.made + 1 : Nat) : Int) = (m : Int) + 1 by rw [HMM.out]; omega]) (by decide) HM.out.suf rfl)
    clear h200
    have H3 := Lib.hid (RMem.next H2.out HR.out HJ.out)
    go_enter Tryz.func57, Tryz.ntmps57
    go_wp2_with fail
    go_end0
    rw [HEQ.out]
    exact ⟨rfl, ⟨_, _, _, H3.out⟩, grown_trans (grown_one g 3 _) (grown_one g 1 _)⟩
set_option maxHeartbeats 8000000 in
theorem refMakes_true_true {Pr : Nat → Prop} (base g : Nat) (ts : List Tk) (σ : RS) (t : Tk) (r : List Tk) (d : Nat) (w : World) (h : RMemE Pr w base g ts σ) (he : σ.err = 0) (hr : σ.rest = t :: r) (hl : ts.length ≤ 5000) (hd : σ.deep = (d : Int)) (hd40 : d ≤ 40) (hm : σ.made ≤ 200) :
    Calls Tryz.prog 57 #[.pointer (some ⟨g, 0, none⟩), .bool true, .bool true] w fun e w' => e = .returned (.tuple #[]) ∧ RMemE Pr w' base g ts (makesR true true t r σ) ∧ w.grownBy w' (some g) := by
  obtain ⟨tv, lv, SN, h⟩ := h
  have HM := Lib.hid h
  have HE := Lib.hid he
  have HR := Lib.hid hr
  have HL := Lib.hid hl
  have HD := Lib.hid hd
  have c1 := h.blk.cell 1 rfl
  have c3 := h.blk.cell 3 rfl
  have c4 := h.blk.cell 4 rfl
  have c5 := h.blk.cell 5 rfl
  have f1 := h.blk.fz 1 rfl
  have f3 := h.blk.fz 3 rfl
  have f4 := h.blk.fz 4 rfl
  rw [he] at c5
  rw [hd] at c4
  obtain ⟨j, hj⟩ : ∃ j, ts.length - σ.rest.length = j := ⟨_, rfl⟩
  rw [hj] at c1
  have HJ := Lib.hid hj
  have hj5 : (j : Int) ≤ 5000 := by omega
  have hj0 : (0 : Int) ≤ (j : Int) := by omega
  obtain ⟨m, hmm⟩ : ∃ m, σ.made = m := ⟨_, rfl⟩
  rw [hmm] at c3 hm
  have HMM := Lib.hid hmm
  have hd4i : (d : Int) ≤ 40 := by omega
  have hd0i : (0 : Int) ≤ (d : Int) := by omega
  have hm2i : (m : Int) ≤ 200 := by omega
  have hm0i : (0 : Int) ≤ (m : Int) := by omega
  clear h he hr hl hd hj hmm
  by_cases h40 : d = 40
  · have HEQ := Lib.hid (show makesR true true t r σ = { σ with deep := (d : Int) + 1, err := 3, wh := t.pos } by rw [makes_over (σ := σ) (by rw [HD.out]; omega), HD.out])
    have hgt : (40 : Int) < (d : Int) + 1 := by omega
    have h1 := RMem.store (σ' := { σ with deep := (d : Int) + 1 }) HM.out 4 (.int .i64 ((d : Int) + 1)) rfl (by decide) HM.out.suf rfl
    have H1 := Lib.hid h1
    clear h1 h40
    go_enter Tryz.func57, Tryz.ntmps57
    go_wp2_with fail
    refine (refBad0 base g ts ({ σ with deep := (d : Int) + 1 }) t r 3 _ ⟨_, _, _, H1.out⟩ HE.out HR.out HL.out).mono ?_
    rintro e w2 ⟨rfl, hm2, hg2⟩
    have HM2 := Lib.hid hm2
    have HG2 := Lib.hid (grown_trans (grown_one g 4 _) hg2)
    clear hm2 hg2
    go_wp2_with fail
    refine bodyPost_ret (v := .tuple #[]) (by simp [results, Tryz.results57, go_sem]) rfl ?_
    rw [HEQ.out]
    exact ⟨rfl, HM2.out, HG2.out⟩
  · have hgt : decide ((40 : Int) < (d : Int) + 1) = false := decide_eq_false (by omega)
    have H1 := Lib.hid (RMem.store (σ' := { σ with deep := (d : Int) + 1 }) HM.out 4 (.int .i64 ((d : Int) + 1)) rfl (by decide) HM.out.suf rfl)
    have HD39 := Lib.hid (show d + 1 ≤ 40 by omega)
    clear h40
    by_cases h200 : m = 200
    · have HEQ := Lib.hid (show makesR true true t r σ = { σ with deep := (d : Int) + 1, made := σ.made + 1, err := 4, wh := t.pos } by rw [makes_down (σ := σ) HE.out (by rw [HD.out]; have := HD39.out; omega), HD.out, if_pos rfl]; unfold nodeR; rw [if_neg (by show ¬ σ.made + 1 ≤ 200; rw [HMM.out]; omega)])
      have hgn : (200 : Int) < (m : Int) + 1 := by omega
      have H2 := Lib.hid (RMem.store (σ' := { σ with deep := (d : Int) + 1, made := σ.made + 1 }) H1.out 3 (.int .i64 ((m : Int) + 1)) (by unfold cellsR; simp only [List.set]; rw [show ((σ.made + 1 : Nat) : Int) = (m : Int) + 1 by rw [HMM.out]; omega]) (by decide) HM.out.suf rfl)
      clear h200
      go_enter Tryz.func57, Tryz.ntmps57
      go_wp2_with fail
      refine (refBad0 base g ts ({ σ with deep := (d : Int) + 1, made := σ.made + 1 }) t r 4 _ ⟨_, _, _, H2.out⟩ HE.out HR.out HL.out).mono ?_
      rintro e w2 ⟨rfl, hm2, hg2⟩
      have HM2 := Lib.hid hm2
      have HG2 := Lib.hid (grown_trans (grown_trans (grown_one g 4 _) (grown_one g 3 _)) hg2)
      clear hm2 hg2
      go_wp2_with fail
      refine bodyPost_ret (v := .tuple #[]) (by simp [results, Tryz.results57, go_sem]) rfl ?_
      rw [HEQ.out]
      exact ⟨rfl, HM2.out, HG2.out⟩
    · have hgn : decide ((200 : Int) < (m : Int) + 1) = false := decide_eq_false (by omega)
      have HEQ := Lib.hid (show makesR true true t r σ = { σ with deep := (d : Int) + 1, made := σ.made + 1, rest := r } by rw [makes_down (σ := σ) HE.out (by rw [HD.out]; have := HD39.out; omega), HD.out, if_pos rfl]; unfold nodeR; rw [if_pos (by show σ.made + 1 ≤ 200; rw [HMM.out]; omega)])
      have H2 := Lib.hid (RMem.store (σ' := { σ with deep := (d : Int) + 1, made := σ.made + 1 }) H1.out 3 (.int .i64 ((m : Int) + 1)) (by unfold cellsR; simp only [List.set]; rw [show ((σ.made + 1 : Nat) : Int) = (m : Int) + 1 by rw [HMM.out]; omega]) (by decide) HM.out.suf rfl)
      clear h200
      have H3 := Lib.hid (RMem.next H2.out HR.out HJ.out)
      go_enter Tryz.func57, Tryz.ntmps57
      go_wp2_with fail
      go_end0
      rw [HEQ.out]
      exact ⟨rfl, ⟨_, _, _, H3.out⟩, grown_trans (grown_trans (grown_one g 4 _) (grown_one g 3 _)) (grown_one g 1 _)⟩
set_option maxHeartbeats 8000000 in
theorem refMakes_false_true {Pr : Nat → Prop} (base g : Nat) (ts : List Tk) (σ : RS) (t : Tk) (r : List Tk) (d : Nat) (w : World) (h : RMemE Pr w base g ts σ) (he : σ.err = 0) (hr : σ.rest = t :: r) (hl : ts.length ≤ 5000) (hd : σ.deep = (d : Int)) (hd40 : d ≤ 40) (hm : σ.made ≤ 200) :
    Calls Tryz.prog 57 #[.pointer (some ⟨g, 0, none⟩), .bool false, .bool true] w fun e w' => e = .returned (.tuple #[]) ∧ RMemE Pr w' base g ts (makesR false true t r σ) ∧ w.grownBy w' (some g) := by
  obtain ⟨tv, lv, SN, h⟩ := h
  have HM := Lib.hid h
  have HE := Lib.hid he
  have HR := Lib.hid hr
  have HL := Lib.hid hl
  have HD := Lib.hid hd
  have c1 := h.blk.cell 1 rfl
  have c3 := h.blk.cell 3 rfl
  have c4 := h.blk.cell 4 rfl
  have c5 := h.blk.cell 5 rfl
  have f1 := h.blk.fz 1 rfl
  have f3 := h.blk.fz 3 rfl
  have f4 := h.blk.fz 4 rfl
  rw [he] at c5
  rw [hd] at c4
  obtain ⟨j, hj⟩ : ∃ j, ts.length - σ.rest.length = j := ⟨_, rfl⟩
  rw [hj] at c1
  have HJ := Lib.hid hj
  have hj5 : (j : Int) ≤ 5000 := by omega
  have hj0 : (0 : Int) ≤ (j : Int) := by omega
  obtain ⟨m, hmm⟩ : ∃ m, σ.made = m := ⟨_, rfl⟩
  rw [hmm] at c3 hm
  have HMM := Lib.hid hmm
  have hd4i : (d : Int) ≤ 40 := by omega
  have hd0i : (0 : Int) ≤ (d : Int) := by omega
  have hm2i : (m : Int) ≤ 200 := by omega
  have hm0i : (0 : Int) ≤ (m : Int) := by omega
  clear h he hr hl hd hj hmm
  by_cases h40 : d = 40
  · have HEQ := Lib.hid (show makesR false true t r σ = { σ with deep := (d : Int) + 1, err := 3, wh := t.pos } by rw [makes_over (σ := σ) (by rw [HD.out]; omega), HD.out])
    have hgt : (40 : Int) < (d : Int) + 1 := by omega
    have h1 := RMem.store (σ' := { σ with deep := (d : Int) + 1 }) HM.out 4 (.int .i64 ((d : Int) + 1)) rfl (by decide) HM.out.suf rfl
    have H1 := Lib.hid h1
    clear h1 h40
    go_enter Tryz.func57, Tryz.ntmps57
    go_wp2_with fail
    refine (refBad0 base g ts ({ σ with deep := (d : Int) + 1 }) t r 3 _ ⟨_, _, _, H1.out⟩ HE.out HR.out HL.out).mono ?_
    rintro e w2 ⟨rfl, hm2, hg2⟩
    have HM2 := Lib.hid hm2
    have HG2 := Lib.hid (grown_trans (grown_one g 4 _) hg2)
    clear hm2 hg2
    go_wp2_with fail
    refine bodyPost_ret (v := .tuple #[]) (by simp [results, Tryz.results57, go_sem]) rfl ?_
    rw [HEQ.out]
    exact ⟨rfl, HM2.out, HG2.out⟩
  · have hgt : decide ((40 : Int) < (d : Int) + 1) = false := decide_eq_false (by omega)
    have H1 := Lib.hid (RMem.store (σ' := { σ with deep := (d : Int) + 1 }) HM.out 4 (.int .i64 ((d : Int) + 1)) rfl (by decide) HM.out.suf rfl)
    have HD39 := Lib.hid (show d + 1 ≤ 40 by omega)
    clear h40
    have HEQ := Lib.hid (show makesR false true t r σ = { σ with deep := (d : Int) + 1, rest := r } by rw [makes_down (σ := σ) HE.out (by rw [HD.out]; have := HD39.out; omega), HD.out, if_neg (by decide)])
    have H3 := Lib.hid (RMem.next H1.out HR.out HJ.out)
    go_enter Tryz.func57, Tryz.ntmps57
    go_wp2_with fail
    go_end0
    rw [HEQ.out]
    exact ⟨rfl, ⟨_, _, _, H3.out⟩, grown_trans (grown_one g 4 _) (grown_one g 1 _)⟩
end Go.Proofs.YtnoghlhggeffnaaGreatDoor.Parse

/- The walk of the reference's number. By an AI agent. -/
namespace Go.Proofs.YtnoghlhggeffnaaGreatDoor.Parse
open Go.RowKit Go.Proofs.YtnoghlhggeffnaaGreatDoor.Ints Go.Proofs.YtnoghlhggeffnaaGreatDoor.Lex Go.Proofs.YtnoghlhggeffnaaGreatDoor.Tree

set_option maxHeartbeats 4000000 in
theorem refNumberN {Pr : Nat → Prop} (base g : Nat) (ts : List Tk) (σ : RS) (x : Int) (w : World) (h : RMemE Pr w base g ts σ) (he : σ.err ≠ 0) :
    Calls Tryz.prog 110 #[.pointer (some ⟨g, 0, none⟩), .int .i64 x] w fun e w' => e = .returned (.int .i64 0) ∧ w' = w := by
  obtain ⟨tv, lv, SN, h⟩ := h
  have c5 := h.blk.cell 5 rfl
  have hne : ((σ.err : Int) != 0) = true := by simp; omega
  clear h he
  go_enter Tryz.func110, Tryz.ntmps110
  go_wp2
  exact bodyPost_ret (v := .int .i64 0) (by simp [results, Tryz.results110, go_sem]) rfl ⟨rfl, rfl⟩

/-- What number does. -/
def numR (least : Int) (t : Tk) (r : List Tk) (σ : RS) : RS := if t.kind = 2 ∧ least ≤ (t.num : Int) then { σ with rest := r } else { σ with err := 2, wh := t.pos }
def numV (least : Int) (t : Tk) : Int := if t.kind = 2 ∧ least ≤ (t.num : Int) then (t.num : Int) else 0
set_option maxHeartbeats 8000000 in
theorem refNumber {Pr : Nat → Prop} (base g : Nat) (ts : List Tk) (σ : RS) (t : Tk) (r : List Tk) (x : Int) (w : World) (h : RMemE Pr w base g ts σ) (he : σ.err = 0) (hr : σ.rest = t :: r) (hl : ts.length ≤ 5000) :
    Calls Tryz.prog 110 #[.pointer (some ⟨g, 0, none⟩), .int .i64 x] w fun e w' => e = .returned (.int .i64 (numV x t)) ∧ RMemE Pr w' base g ts (numR x t r σ) ∧ w.grownBy w' (some g) := by
  obtain ⟨tv, lv, SN, h⟩ := h
  have HR := Lib.hid hr
  have HL := Lib.hid hl
  have HE := Lib.hid he
  have HM := Lib.hid h
  obtain ⟨b, c, j, rfl, hj, hjl, d0, d1, d2, d3⟩ := h.tok hr
  have c5 := h.blk.cell 5 rfl
  rw [he] at c5
  have k0 := h.blk.cell 0 rfl
  have k1 := h.blk.cell 1 rfl
  have c0 : ∀ o, (w.alloc o).cell? ⟨g, 0, none⟩ = _ := fun o => (h.blk.alloc o).cell 0 rfl
  have c1 : ∀ o, (w.alloc o).cell? ⟨g, 1, none⟩ = _ := fun o => (h.blk.alloc o).cell 1 rfl
  rw [hj] at c1 k1
  have e0 : ∀ o, (w.alloc o).cell? ⟨b, j * 4, none⟩ = _ := fun o => Lib.cell?_alloc_marked o d0
  have e1 : ∀ o, (w.alloc o).cell? ⟨b, j * 4 + 1, none⟩ = _ := fun o => Lib.cell?_alloc_marked o d1
  have e2 : ∀ o, (w.alloc o).cell? ⟨b, j * 4 + 2, none⟩ = _ := fun o => Lib.cell?_alloc_marked o d2
  have e3 : ∀ o, (w.alloc o).cell? ⟨b, j * 4 + 3, none⟩ = _ := fun o => Lib.cell?_alloc_marked o d3
  have hj2 : (j : Int) < (ts.length : Int) := by omega
  have hj3 : (0 : Int) ≤ (j : Int) := by omega
  have hj5 : (j : Int) ≤ 5000 := by omega
  have HJ := Lib.hid hj
  have HB := Lib.hid ((Below.refl w.heap.size w).alloc (Nat.le_refl _) (.cells #[.int .i64 (t.kind : Int), .string (Lex.bytes t.text), .int .i64 (t.num : Int), .int .i64 (t.pos : Int)] 74))
  have hm1 := h.later HB.out
  have HM1 := Lib.hid hm1
  have HN := Lib.hid (hm1.next hr hj)
  have n1 := (h.blk.alloc (.cells #[.int .i64 (t.kind : Int), .string (Lex.bytes t.text), .int .i64 (t.num : Int), .int .i64 (t.pos : Int)] 74)).cell 1 rfl
  have g1 := (h.blk.alloc (.cells #[.int .i64 (t.kind : Int), .string (Lex.bytes t.text), .int .i64 (t.num : Int), .int .i64 (t.pos : Int)] 74)).fz 1 rfl
  rw [hj] at n1
  clear hm1 h hr hl hj hjl he
  by_cases hk : t.kind = 2
  · by_cases hn : x ≤ (t.num : Int)
    · have hki : ((t.kind : Int) != 2) = false := by simp; omega
      have hni : ¬ ((t.num : Int) < x) := by omega
      have HV := Lib.hid (show numV x t = (t.num : Int) ∧ numR x t r σ = { σ with rest := r } from ⟨by unfold numV; rw [if_pos ⟨hk, hn⟩], by unfold numR; rw [if_pos ⟨hk, hn⟩]⟩)
      clear hk
      go_enter Tryz.func110, Tryz.ntmps110
      go_wp2
      go_region
      all_goals
        go_wp2
        refine bodyPost_ret (v := .int .i64 (t.num : Int)) (by simp [results, Tryz.results110, go_sem]) rfl ?_
        rw [HV.out.1, HV.out.2]
        exact ⟨rfl, ⟨_, _, _, HN.out.later (Below.refl _ _).drew⟩, grown_trans (grown_of_below HB.out) (grown_trans (grown_one g 1 _) (grown_of_below (Below.refl _ _).drew))⟩
    · have hki : ((t.kind : Int) != 2) = false := by simp; omega
      have hni : (t.num : Int) < x := by omega
      have HV := Lib.hid (show numV x t = 0 ∧ numR x t r σ = { σ with err := 2, wh := t.pos } from ⟨by unfold numV; rw [if_neg (fun h => hn h.2)], by unfold numR; rw [if_neg (fun h => hn h.2)]⟩)
      clear hk
      go_enter Tryz.func110, Tryz.ntmps110
      go_wp2
      go_region
      all_goals
        go_wp2_with fail
        refine (refBad0 base g ts σ t r 2 _ ⟨_, _, _, HM1.out.later (Below.refl _ _).drew⟩ HE.out HR.out HL.out).mono ?_
        rintro e w2 ⟨rfl, hm2, hg2⟩
        have HM2 := Lib.hid hm2
        have HG2 := Lib.hid (grown_trans (grown_of_below HB.out.drew) hg2)
        clear hm2 hg2
        go_wp2
        refine bodyPost_ret (v := .int .i64 0) (by simp [results, Tryz.results110, go_sem]) rfl ?_
        rw [HV.out.1, HV.out.2]
        exact ⟨rfl, HM2.out, HG2.out⟩
  · have hki : ((t.kind : Int) != 2) = true := by simp; omega
    have HV := Lib.hid (show numV x t = 0 ∧ numR x t r σ = { σ with err := 2, wh := t.pos } from ⟨by unfold numV; rw [if_neg (fun h => hk h.1)], by unfold numR; rw [if_neg (fun h => hk h.1)]⟩)
    clear hk
    go_enter Tryz.func110, Tryz.ntmps110
    go_wp2
    go_region
    all_goals
      go_wp2_with fail
      refine (refBad0 base g ts σ t r 2 _ ⟨_, _, _, HM1.out.later (Below.refl _ _).drew⟩ HE.out HR.out HL.out).mono ?_
      rintro e w2 ⟨rfl, hm2, hg2⟩
      have HM2 := Lib.hid hm2
      have HG2 := Lib.hid (grown_trans (grown_of_below HB.out.drew) hg2)
      clear hm2 hg2
      go_wp2
      refine bodyPost_ret (v := .int .i64 0) (by simp [results, Tryz.results110, go_sem]) rfl ?_
      rw [HV.out.1, HV.out.2]
      exact ⟨rfl, HM2.out, HG2.out⟩
end Go.Proofs.YtnoghlhggeffnaaGreatDoor.Parse
