/-
  Rows of pieces of a text; one piece put behind them; a row put behind them; a row turned round. By an AI agent.
-/
import Derived.Test.YthcbgneoonekkaaDoorGShowNest13
import Derived.Test.YthcbgneoonekkaaDoorGShowNest4
import Derived.RegionTactic
namespace Go.Proofs.YthcbgneoonekkaaDoor.Show
open Go.RowKit Go.Proofs.YthcbgneoonekkaaDoor.Ints Go.Proofs.YthcbgneoonekkaaDoor.Lex

/-- A piece: something written out, and a node (or none: -1). -/
abbrev Pc := List UInt8 × Int
def cellsP (x : Pc) : List Value := [.string (Lex.bytes x.1), .int .i64 x.2]
def rowP (l : List Pc) : List Value := l.flatMap cellsP
theorem rowP_len (l : List Pc) : (rowP l).length = l.length * 2 := by
  induction l with
  | nil => rfl
  | cons x l ih =>
    show (cellsP x ++ rowP l).length = _
    rw [List.length_append, ih, List.length_cons]
    show 2 + _ = _
    omega
theorem rowP_append (l m : List Pc) : rowP (l ++ m) = rowP l ++ rowP m := List.flatMap_append
theorem rowP_at : ∀ (l : List Pc) (j : Nat) (t : Pc), l[j]? = some t → ∀ f, f < 2 → (rowP l)[j * 2 + f]? = (cellsP t)[f]?
  | [], _, _, h, _, _ => by simp at h
  | x :: l, 0, t, h, f, hf => by
    simp only [List.getElem?_cons_zero, Option.some.injEq] at h
    subst h
    show (cellsP x ++ rowP l)[0 * 2 + f]? = _
    rw [Nat.zero_mul, Nat.zero_add, List.getElem?_append_left (by exact hf)]
  | x :: l, j + 1, t, h, f, hf => by
    have ih := rowP_at l j t (by simpa using h) f hf
    show (cellsP x ++ rowP l)[(j + 1) * 2 + f]? = _
    rw [List.getElem?_append_right (by show 2 ≤ _; omega), ← ih]
    congr 1
    show (j + 1) * 2 + f - 2 = _
    omega
theorem cellsP_one (t : Pc) : ∀ u ∈ cellsP t, u.oneCell' = true := by
  intro u hu
  simp only [cellsP, List.mem_cons, List.not_mem_nil, or_false] at hu
  rcases hu with rfl | rfl <;> rfl
theorem rowP_one (l : List Pc) : ∀ u ∈ rowP l, u.oneCell' = true := by
  intro u hu
  obtain ⟨t, -, ht⟩ := List.mem_flatMap.1 hu
  exact cellsP_one t u ht
theorem rowP_take (l : List Pc) (k : Nat) : rowP (l.take k) = (rowP l).take (k * 2) := by
  induction l generalizing k with
  | nil => simp [rowP]
  | cons x l ih =>
    cases k with
    | zero => simp [rowP]
    | succ k =>
      rw [List.take_succ_cons]
      show cellsP x ++ rowP (l.take k) = (cellsP x ++ rowP l).take ((k + 1) * 2)
      rw [ih, show (k + 1) * 2 = (cellsP x).length + k * 2 by show _ = 2 + _; omega, List.take_length_add_append]
theorem infoPc : (Tryd.prog.info? 49).map (fun i => (i.zero, i.size, i.bytes)) = some (some (.agg #[.string { data := #[] }, .int .i64 0]), 2, 24) := by kernel_rfl

section
variable {w : World}
/-- 'append(v, x)': v is the call's own row of pieces; x lies in a new block. -/
theorem append_pc {ops : Array Oper} {rest : List Oper} {o : Oper} {a : Act} {Q : Exit → Act → World → Prop} (hgd : o.guard = none) (s x : Operand)
    (ho : o.op = .call { callee := .builtin .append, args := #[s, x], argTypes := #[50, 50] }) (base : Nat)
    (v : Value) (l : List Pc) (hs : a.eval s = v) (hown : w.ownsRow base 49 2 v l.length (rowP l))
    (p : Pc) (T : TypeId) (cs : Array Value) (hcs : cs = (cellsP p).toArray) (hx : a.eval x = .slice (some ⟨w.heap.size, 0, none⟩) 1 1)
    (hl : l.length ≤ 4194304) (hbase : base ≤ w.heap.size)
    (h : ∀ v' w', w'.ownsRow base 49 2 v' (l ++ [p]).length (rowP (l ++ [p])) → (w.alloc (.cells cs T)).grownBy w' v.ownBlock → wpList Tryd.prog ops Q rest (a.put o.dst v') w') : wpList Tryd.prog ops Q (o :: rest) a (w.alloc (.cells cs T)) := by
  subst hcs
  obtain ⟨i, hi, hz, hs2, hby⟩ := info_parts infoPc
  refine wpList_append_own _ hgd s x 50 ho base 49 i _ 2 24 Tryd.underlying50 hi hz hs2 hby rfl (by decide) v l.length (rowP l) hs (hown.alloc _) ⟨w.heap.size, 0, none⟩ 1 1 (cellsP p) hx rfl (fun j u hu => ?_) (cellsP_one p)
    (by have : maxLen = 9223372036854775807 := rfl; omega) (by omega) (by simp; omega) (fun v' w' h1 h2 _ => h v' w' ?_ h2)
  · rw [show (⟨w.heap.size, 0, none⟩ : Addr).add j = ⟨w.heap.size, j, none⟩ by unfold Addr.add; split <;> simp_all]
    rw [cell_of_row _ w.heap.size j _ T (0, 0) (heap_alloc_new w _)]
    simpa using hu
  · rw [rowP_append, List.length_append]
    have e : rowP [p] = cellsP p := by simp [rowP]
    rw [e]
    exact h1
/-- 'append(v, ys...)': both are the call's own rows. -/
theorem append_pcs {ops : Array Oper} {rest : List Oper} {o : Oper} {a : Act} {Q : Exit → Act → World → Prop} (hgd : o.guard = none) (s x : Operand)
    (ho : o.op = .call { callee := .builtin .append, args := #[s, x], argTypes := #[50, 50] }) (base base2 : Nat)
    (v : Value) (l : List Pc) (hs : a.eval s = v) (hown : w.ownsRow base 49 2 v l.length (rowP l))
    (g c : Nat) (ys : List Pc) (hx : a.eval x = .slice (some ⟨g, 0, none⟩) ys.length c) (hy : w.ownsRow base2 49 2 (.slice (some ⟨g, 0, none⟩) ys.length c) ys.length (rowP ys))
    (hl : l.length + ys.length ≤ 4194304) (hbase : base ≤ w.heap.size)
    (h : ∀ v' w', w'.ownsRow base 49 2 v' (l ++ ys).length (rowP (l ++ ys)) → w.grownBy w' v.ownBlock → wpList Tryd.prog ops Q rest (a.put o.dst v') w') : wpList Tryd.prog ops Q (o :: rest) a w := by
  obtain ⟨i, hi, hz, hs2, hby⟩ := info_parts infoPc
  refine wpList_append_own _ hgd s x 50 ho base 49 i _ 2 24 Tryd.underlying50 hi hz hs2 hby rfl (by decide) v l.length (rowP l) hs hown ⟨g, 0, none⟩ ys.length c (rowP ys) hx (rowP_len ys) (fun j u hu => ?_) (rowP_one ys)
    (by have : maxLen = 9223372036854775807 := rfl; omega) (by omega) hbase (fun v' w' h1 h2 _ => h v' w' ?_ h2)
  · exact hy.cells rfl j u hu
  · rw [rowP_append, List.length_append]
    exact h1
theorem pc_cell {base : Nat} {g n c : Nat} {l : List Pc} (h : w.ownsRow base 49 2 (.slice (some ⟨g, 0, none⟩) n c) n (rowP l)) (hl : l.length = n) {j : Nat} {t : Pc} (hj : l[j]? = some t) :
    w.cell? ⟨g, j * 2, none⟩ = some (.string (Lex.bytes t.1)) ∧ w.cell? ⟨g, j * 2 + 1, none⟩ = some (.int .i64 t.2) := by
  have hjl := (List.getElem?_eq_some_iff.1 hj).1
  have key : ∀ f, f < 2 → w.cell? ⟨g, j * 2 + f, none⟩ = (cellsP t)[f]? := fun f hf => by
    rw [h.cellAt (j * 2 + f) (by omega)]
    exact rowP_at l j t hj f hf
  exact ⟨key 0 (by decide), key 1 (by decide)⟩
end
/-! ### a row turned round -/
theorem four {w : World} {base : Nat} {e : TypeId} {g n c : Nat} {xs ys : List Value} (h : w.ownsRow base e 2 (.slice (some ⟨g, 0, none⟩) n c) n xs) (k0 k1 k2 k3 : Nat) (u0 u1 u2 u3 : Value)
    (hy : (((xs.set k0 u0).set k1 u1).set k2 u2).set k3 u3 = ys) :
    (((((w.setCell ⟨g, k0, none⟩ u0).setCell ⟨g, k1, none⟩ u1).setCell ⟨g, k2, none⟩ u2).setCell ⟨g, k3, none⟩ u3).drew).ownsRow base e 2 (.slice (some ⟨g, 0, none⟩) n c) n ys ∧
      Below base w (((((w.setCell ⟨g, k0, none⟩ u0).setCell ⟨g, k1, none⟩ u1).setCell ⟨g, k2, none⟩ u2).setCell ⟨g, k3, none⟩ u3).drew) := by
  subst hy
  obtain ⟨h0, g0⟩ := h.stored k0 u0
  obtain ⟨h1, g1⟩ := h0.stored k1 u1
  obtain ⟨h2, g2⟩ := h1.stored k2 u2
  obtain ⟨h3, g3⟩ := h2.stored k3 u3
  have hg : base ≤ g := (h.lt g rfl).1
  exact ⟨h3, (((((Below.refl base w).setCell (p := ⟨g, k0, none⟩) hg _).setCell (p := ⟨g, k1, none⟩) hg _).setCell (p := ⟨g, k2, none⟩) hg _).setCell (p := ⟨g, k3, none⟩) hg _).drew⟩
set_option maxHeartbeats 8000000 in
set_option maxRecDepth 100000 in
theorem landReverse (base g c : Nat) (ps : List Pc) (w : World) (h : w.ownsRow base 49 2 (.slice (some ⟨g, 0, none⟩) ps.length c) ps.length (rowP ps)) (h1 : 1 ≤ ps.length) (h3 : ps.length ≤ 3) :
    Calls Tryd.prog 16 #[.slice (some ⟨g, 0, none⟩) ps.length c] w fun e w' => e = .returned (.tuple #[]) ∧ w'.ownsRow base 49 2 (.slice (some ⟨g, 0, none⟩) ps.length c) ps.length (rowP ps.reverse) ∧ Below base w w' := by
  have hfz := fun j => h.frozenAt j
  rcases ps with _ | ⟨x, _ | ⟨y, _ | ⟨z, _ | ⟨u, r⟩⟩⟩⟩
  · exact absurd h1 (by decide)
  · have HO := Lib.hid h
    clear h hfz h1 h3
    simp only [List.length_cons, List.length_nil, Nat.zero_add] at HO ⊢
    go_enter Tryd.func16, Tryd.ntmps16
    go_wp2
    go_loopw [2, 3] (fun i j wr => i = .int .i64 0 ∧ j = .int .i64 0 ∧ wr = w) (fun _ _ _ => 0)
    case atStart => exact ⟨rfl, rfl, rfl⟩
    case round =>
      obtain ⟨rfl, rfl, rfl⟩ := hrel
      go_wp2
      go_end0
      exact ⟨rfl, HO.out, Below.refl _ _⟩
  · obtain ⟨a0, a1⟩ := pc_cell h rfl (j := 0) (t := x) rfl
    obtain ⟨b0, b1⟩ := pc_cell h rfl (j := 1) (t := y) rfl
    have f0 := hfz 0
    have f1 := hfz 1
    have f2 := hfz 2
    have f3 := hfz 3
    have HO := Lib.hid h
    clear h hfz h1 h3
    simp only [List.length_cons, List.length_nil, Nat.zero_add, Nat.reduceAdd, Nat.reduceMul] at HO a0 a1 b0 b1 ⊢
    go_enter Tryd.func16, Tryd.ntmps16
    go_wp2
    go_loopw [2, 3] (fun i j wr => (i = .int .i64 0 ∧ j = .int .i64 1 ∧ wr = w) ∨ (i = .int .i64 1 ∧ j = .int .i64 0 ∧ Hid (wr.ownsRow base 49 2 (.slice (some ⟨g, 0, none⟩) 2 c) 2 (rowP [y, x])) ∧ Hid (Below base w wr))) (fun _ j _ => (intOf j).toNat)
    case atStart => exact Or.inl ⟨rfl, rfl, rfl⟩
    case round =>
      rcases hrel with ⟨rfl, rfl, rfl⟩ | ⟨rfl, rfl, HW, HG⟩
      · go_wp2
        go_region
        all_goals
          go_wp2
          go_roundw
          case rel => exact Or.inr ⟨rfl, rfl, (four HO.out 0 1 2 3 _ _ _ _ rfl).1, (four HO.out 0 1 2 3 _ _ _ _ rfl).2⟩
          case measure => simp [intOf]
      · go_wp2
        go_end0
        exact ⟨rfl, HW.out, HG.out⟩
  · obtain ⟨a0, a1⟩ := pc_cell h rfl (j := 0) (t := x) rfl
    obtain ⟨b0, b1⟩ := pc_cell h rfl (j := 2) (t := z) rfl
    have f0 := hfz 0
    have f1 := hfz 1
    have f4 := hfz 4
    have f5 := hfz 5
    have HO := Lib.hid h
    clear h hfz h1 h3
    simp only [List.length_cons, List.length_nil, Nat.zero_add, Nat.reduceAdd, Nat.reduceMul] at HO a0 a1 b0 b1 ⊢
    go_enter Tryd.func16, Tryd.ntmps16
    go_wp2
    go_loopw [2, 3] (fun i j wr => (i = .int .i64 0 ∧ j = .int .i64 2 ∧ wr = w) ∨ (i = .int .i64 1 ∧ j = .int .i64 1 ∧ Hid (wr.ownsRow base 49 2 (.slice (some ⟨g, 0, none⟩) 3 c) 3 (rowP [z, y, x])) ∧ Hid (Below base w wr))) (fun _ j _ => (intOf j).toNat)
    case atStart => exact Or.inl ⟨rfl, rfl, rfl⟩
    case round =>
      rcases hrel with ⟨rfl, rfl, rfl⟩ | ⟨rfl, rfl, HW, HG⟩
      · go_wp2
        go_region
        all_goals
          go_wp2
          go_roundw
          case rel => exact Or.inr ⟨rfl, rfl, (four HO.out 0 1 4 5 _ _ _ _ rfl).1, (four HO.out 0 1 4 5 _ _ _ _ rfl).2⟩
          case measure => simp [intOf]
      · go_wp2
        go_end0
        exact ⟨rfl, HW.out, HG.out⟩
  · exfalso; simp at h3
end Go.Proofs.YthcbgneoonekkaaDoor.Show
