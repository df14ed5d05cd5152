/-
  Rows of pieces of a text; one piece put behind them; a row put behind them; a row turned round. By an AI agent.
  The pieces of a node's text: what they are; the walk of the landed pieces. By an AI agent.
-/
import Derived.Test.YthcbgneoonekkaaGreatDoorGShowBack8
import Derived.Test.YthcbgneoonekkaaGreatDoorGShowBack3
import Derived.RegionTactic
import Derived.Test.YthcbgneoonekkaaGreatDoorGShowBack9
import Derived.Test.YthcbgneoonekkaaGreatDoorGShowBack10
namespace Go.Proofs.YthcbgneoonekkaaGreatDoor.Show
open Go.RowKit Go.Proofs.YthcbgneoonekkaaGreatDoor.Ints Go.Proofs.YthcbgneoonekkaaGreatDoor.Lex

/-- A piece: something written out, and a node (or none: -1). -/
abbrev Pc := List UInt8 × Int
def cellsP (x : Pc) : List Value := [.string (Lex.bytes x.1), .int .i64 x.2]
def rowP (l : List Pc) : List Value := l.flatMap cellsP
theorem rowP_len (l : List Pc) : (rowP l).length = l.length * 2 := by
  induction l with
  | nil => rfl
  | cons x l ih =>
    show (cellsP x ++ rowP l).length = _
    rw [List.length_append, ih, List.length_cons]
    show 2 + _ = _
    omega
theorem rowP_append (l m : List Pc) : rowP (l ++ m) = rowP l ++ rowP m := List.flatMap_append
theorem rowP_at : ∀ (l : List Pc) (j : Nat) (t : Pc), l[j]? = some t → ∀ f, f < 2 → (rowP l)[j * 2 + f]? = (cellsP t)[f]?
  | [], _, _, h, _, _ => by simp at h
  | x :: l, 0, t, h, f, hf => by
    simp only [List.getElem?_cons_zero, Option.some.injEq] at h
    subst h
    show (cellsP x ++ rowP l)[0 * 2 + f]? = _
    rw [Nat.zero_mul, Nat.zero_add, List.getElem?_append_left (by exact hf)]
  | x :: l, j + 1, t, h, f, hf => by
    have ih := rowP_at l j t (by simpa using h) f hf
    show (cellsP x ++ rowP l)[(j + 1) * 2 + f]? = _
    rw [List.getElem?_append_right (by show 2 ≤ _; omega), ← ih]
    congr 1
    show (j + 1) * 2 + f - 2 = _
    omega
theorem cellsP_one (t : Pc) : ∀ u ∈ cellsP t, u.oneCell' = true := by
  intro u hu
  simp only [cellsP, List.mem_cons, List.not_mem_nil, or_false] at hu
  rcases hu with rfl | rfl <;> rfl
theorem rowP_one (l : List Pc) : ∀ u ∈ rowP l, u.oneCell' = true := by
  intro u hu
  obtain ⟨t, -, ht⟩ := List.mem_flatMap.1 hu
  exact cellsP_one t u ht
theorem rowP_take (l : List Pc) (k : Nat) : rowP (l.take k) = (rowP l).take (k * 2) := by
  induction l generalizing k with
  | nil => simp [rowP]
  | cons x l ih =>
    cases k with
    | zero => simp [rowP]
    | succ k =>
      rw [List.take_succ_cons]
      show cellsP x ++ rowP (l.take k) = (cellsP x ++ rowP l).take ((k + 1) * 2)
      rw [ih, show (k + 1) * 2 = (cellsP x).length + k * 2 by show _ = 2 + _; omega, List.take_length_add_append]
theorem infoPc : (Tryz.prog.info? 50).map (fun i => (i.zero, i.size, i.bytes)) = some (some (.agg #[.string { data := #[] }, .int .i64 0]), 2, 24) := by kernel_rfl

section
variable {w : World}
/-- 'append(v, x)': v is the call's own row of pieces; x lies in a new block. -/
theorem append_pc {ops : Array Oper} {rest : List Oper} {o : Oper} {a : Act} {Q : Exit → Act → World → Prop} (hgd : o.guard = none) (s x : Operand)
    (ho : o.op = .call { callee := .builtin .append, args := #[s, x], argTypes := #[51, 51] }) (base : Nat)
    (v : Value) (l : List Pc) (hs : a.eval s = v) (hown : w.ownsRow base 50 2 v l.length (rowP l))
    (p : Pc) (T : TypeId) (cs : Array Value) (hcs : cs = (cellsP p).toArray) (hx : a.eval x = .slice (some ⟨w.heap.size, 0, none⟩) 1 1)
    (hl : l.length ≤ 4194304) (hbase : base ≤ w.heap.size)
    (h : ∀ v' w', w'.ownsRow base 50 2 v' (l ++ [p]).length (rowP (l ++ [p])) → (w.alloc (.cells cs T)).grownBy w' v.ownBlock → wpList Tryz.prog ops Q rest (a.put o.dst v') w') : wpList Tryz.prog ops Q (o :: rest) a (w.alloc (.cells cs T)) := by
  subst hcs
  obtain ⟨i, hi, hz, hs2, hby⟩ := info_parts infoPc
  refine wpList_append_own _ hgd s x 51 ho base 50 i _ 2 24 Tryz.underlying51 hi hz hs2 hby rfl (by decide) v l.length (rowP l) hs (hown.alloc _) ⟨w.heap.size, 0, none⟩ 1 1 (cellsP p) hx rfl (fun j u hu => ?_) (cellsP_one p)
    (by have : maxLen = 9223372036854775807 := rfl; omega) (by omega) (by simp; omega) (fun v' w' h1 h2 _ => h v' w' ?_ h2)
  · rw [show (⟨w.heap.size, 0, none⟩ : Addr).add j = ⟨w.heap.size, j, none⟩ by unfold Addr.add; split <;> simp_all]
    rw [cell_of_row _ w.heap.size j _ T (0, 0) (heap_alloc_new w _)]
    simpa using hu
  · rw [rowP_append, List.length_append]
    have e : rowP [p] = cellsP p := by simp [rowP]
    rw [e]
    exact h1
/-- 'append(v, ys...)': both are the call's own rows. -/
theorem append_pcs {ops : Array Oper} {rest : List Oper} {o : Oper} {a : Act} {Q : Exit → Act → World → Prop} (hgd : o.guard = none) (s x : Operand)
    (ho : o.op = .call { callee := .builtin .append, args := #[s, x], argTypes := #[51, 51] }) (base base2 : Nat)
    (v : Value) (l : List Pc) (hs : a.eval s = v) (hown : w.ownsRow base 50 2 v l.length (rowP l))
    (g c : Nat) (ys : List Pc) (hx : a.eval x = .slice (some ⟨g, 0, none⟩) ys.length c) (hy : w.ownsRow base2 50 2 (.slice (some ⟨g, 0, none⟩) ys.length c) ys.length (rowP ys))
    (hl : l.length + ys.length ≤ 4194304) (hbase : base ≤ w.heap.size)
    (h : ∀ v' w', w'.ownsRow base 50 2 v' (l ++ ys).length (rowP (l ++ ys)) → w.grownBy w' v.ownBlock → wpList Tryz.prog ops Q rest (a.put o.dst v') w') : wpList Tryz.prog ops Q (o :: rest) a w := by
  obtain ⟨i, hi, hz, hs2, hby⟩ := info_parts infoPc
  refine wpList_append_own _ hgd s x 51 ho base 50 i _ 2 24 Tryz.underlying51 hi hz hs2 hby rfl (by decide) v l.length (rowP l) hs hown ⟨g, 0, none⟩ ys.length c (rowP ys) hx (rowP_len ys) (fun j u hu => ?_) (rowP_one ys)
    (by have : maxLen = 9223372036854775807 := rfl; omega) (by omega) hbase (fun v' w' h1 h2 _ => h v' w' ?_ h2)
  · exact hy.cells rfl j u hu
  · rw [rowP_append, List.length_append]
    exact h1
theorem pc_cell {base : Nat} {g n c : Nat} {l : List Pc} (h : w.ownsRow base 50 2 (.slice (some ⟨g, 0, none⟩) n c) n (rowP l)) (hl : l.length = n) {j : Nat} {t : Pc} (hj : l[j]? = some t) :
    w.cell? ⟨g, j * 2, none⟩ = some (.string (Lex.bytes t.1)) ∧ w.cell? ⟨g, j * 2 + 1, none⟩ = some (.int .i64 t.2) := by
  have hjl := (List.getElem?_eq_some_iff.1 hj).1
  have key : ∀ f, f < 2 → w.cell? ⟨g, j * 2 + f, none⟩ = (cellsP t)[f]? := fun f hf => by
    rw [h.cellAt (j * 2 + f) (by omega)]
    exact rowP_at l j t hj f hf
  exact ⟨key 0 (by decide), key 1 (by decide)⟩
end
/-! ### a row turned round -/
theorem four {w : World} {base : Nat} {e : TypeId} {g n c : Nat} {xs ys : List Value} (h : w.ownsRow base e 2 (.slice (some ⟨g, 0, none⟩) n c) n xs) (k0 k1 k2 k3 : Nat) (u0 u1 u2 u3 : Value)
    (hy : (((xs.set k0 u0).set k1 u1).set k2 u2).set k3 u3 = ys) :
    (((((w.setCell ⟨g, k0, none⟩ u0).setCell ⟨g, k1, none⟩ u1).setCell ⟨g, k2, none⟩ u2).setCell ⟨g, k3, none⟩ u3).drew).ownsRow base e 2 (.slice (some ⟨g, 0, none⟩) n c) n ys ∧
      Below base w (((((w.setCell ⟨g, k0, none⟩ u0).setCell ⟨g, k1, none⟩ u1).setCell ⟨g, k2, none⟩ u2).setCell ⟨g, k3, none⟩ u3).drew) := by
  subst hy
  obtain ⟨h0, g0⟩ := h.stored k0 u0
  obtain ⟨h1, g1⟩ := h0.stored k1 u1
  obtain ⟨h2, g2⟩ := h1.stored k2 u2
  obtain ⟨h3, g3⟩ := h2.stored k3 u3
  have hg : base ≤ g := (h.lt g rfl).1
  exact ⟨h3, (((((Below.refl base w).setCell (p := ⟨g, k0, none⟩) hg _).setCell (p := ⟨g, k1, none⟩) hg _).setCell (p := ⟨g, k2, none⟩) hg _).setCell (p := ⟨g, k3, none⟩) hg _).drew⟩
set_option maxHeartbeats 8000000 in
set_option maxRecDepth 100000 in
theorem landReverse (base g c : Nat) (ps : List Pc) (w : World) (h : w.ownsRow base 50 2 (.slice (some ⟨g, 0, none⟩) ps.length c) ps.length (rowP ps)) (h1 : 1 ≤ ps.length) (h3 : ps.length ≤ 3) :
    Calls Tryz.prog 18 #[.slice (some ⟨g, 0, none⟩) ps.length c] w fun e w' => e = .returned (.tuple #[]) ∧ w'.ownsRow base 50 2 (.slice (some ⟨g, 0, none⟩) ps.length c) ps.length (rowP ps.reverse) ∧ Below base w w' := by
  have hfz := fun j => h.frozenAt j
  rcases ps with _ | ⟨x, _ | ⟨y, _ | ⟨z, _ | ⟨u, r⟩⟩⟩⟩
  · exact absurd h1 (by decide)
  · have HO := Lib.hid h
    clear h hfz h1 h3
    simp only [List.length_cons, List.length_nil, Nat.zero_add] at HO ⊢
    go_enter Tryz.func18, Tryz.ntmps18
    go_wp2
    go_loopw [2, 3] (fun i j wr => i = .int .i64 0 ∧ j = .int .i64 0 ∧ wr = w) (fun _ _ _ => 0)
    case atStart => exact ⟨rfl, rfl, rfl⟩
    case round =>
      obtain ⟨rfl, rfl, rfl⟩ := hrel
      go_wp2
      go_end0
      exact ⟨rfl, HO.out, Below.refl _ _⟩
  · obtain ⟨a0, a1⟩ := pc_cell h rfl (j := 0) (t := x) rfl
    obtain ⟨b0, b1⟩ := pc_cell h rfl (j := 1) (t := y) rfl
    have f0 := hfz 0
    have f1 := hfz 1
    have f2 := hfz 2
    have f3 := hfz 3
    have HO := Lib.hid h
    clear h hfz h1 h3
    simp only [List.length_cons, List.length_nil, Nat.zero_add, Nat.reduceAdd, Nat.reduceMul] at HO a0 a1 b0 b1 ⊢
    go_enter Tryz.func18, Tryz.ntmps18
    go_wp2
    go_loopw [2, 3] (fun i j wr => (i = .int .i64 0 ∧ j = .int .i64 1 ∧ wr = w) ∨ (i = .int .i64 1 ∧ j = .int .i64 0 ∧ Hid (wr.ownsRow base 50 2 (.slice (some ⟨g, 0, none⟩) 2 c) 2 (rowP [y, x])) ∧ Hid (Below base w wr))) (fun _ j _ => (intOf j).toNat)
    case atStart => exact Or.inl ⟨rfl, rfl, rfl⟩
    case round =>
      rcases hrel with ⟨rfl, rfl, rfl⟩ | ⟨rfl, rfl, HW, HG⟩
      · go_wp2
        go_region
        all_goals
          go_wp2
          go_roundw
          case rel => exact Or.inr ⟨rfl, rfl, (four HO.out 0 1 2 3 _ _ _ _ rfl).1, (four HO.out 0 1 2 3 _ _ _ _ rfl).2⟩
          case measure => simp [intOf]
      · go_wp2
        go_end0
        exact ⟨rfl, HW.out, HG.out⟩
  · obtain ⟨a0, a1⟩ := pc_cell h rfl (j := 0) (t := x) rfl
    obtain ⟨b0, b1⟩ := pc_cell h rfl (j := 2) (t := z) rfl
    have f0 := hfz 0
    have f1 := hfz 1
    have f4 := hfz 4
    have f5 := hfz 5
    have HO := Lib.hid h
    clear h hfz h1 h3
    simp only [List.length_cons, List.length_nil, Nat.zero_add, Nat.reduceAdd, Nat.reduceMul] at HO a0 a1 b0 b1 ⊢
    go_enter Tryz.func18, Tryz.ntmps18
    go_wp2
    go_loopw [2, 3] (fun i j wr => (i = .int .i64 0 ∧ j = .int .i64 2 ∧ wr = w) ∨ (i = .int .i64 1 ∧ j = .int .i64 1 ∧ Hid (wr.ownsRow base 50 2 (.slice (some ⟨g, 0, none⟩) 3 c) 3 (rowP [z, y, x])) ∧ Hid (Below base w wr))) (fun _ j _ => (intOf j).toNat)
    case atStart => exact Or.inl ⟨rfl, rfl, rfl⟩
    case round =>
      rcases hrel with ⟨rfl, rfl, rfl⟩ | ⟨rfl, rfl, HW, HG⟩
      · go_wp2
        go_region
        all_goals
          go_wp2
          go_roundw
          case rel => exact Or.inr ⟨rfl, rfl, (four HO.out 0 1 4 5 _ _ _ _ rfl).1, (four HO.out 0 1 4 5 _ _ _ _ rfl).2⟩
          case measure => simp [intOf]
      · go_wp2
        go_end0
        exact ⟨rfl, HW.out, HG.out⟩
  · exfalso; simp at h3
end Go.Proofs.YthcbgneoonekkaaGreatDoor.Show

namespace Go.Proofs.YthcbgneoonekkaaGreatDoor.Show
open Go.RowKit Go.Proofs.YthcbgneoonekkaaGreatDoor.Tree Go.Proofs.YthcbgneoonekkaaGreatDoor.Itoa Go.Proofs.YthcbgneoonekkaaGreatDoor.Ints
open Go.Proofs.YthcbgneoonekkaaGreatDoor.Parse (Blk Blk.new)

def encB (l : List Nd) (n : Nd) (j : Nat) (k : Int) : Bool := decide (rank (kindAt l k) < leastS n.kind j)
/-- One kid more: the place, what stands still to be written, the pieces. -/
def pstep (l : List Nd) (n : Nd) (s : Nat × List UInt8 × List Pc) (k : Int) : Nat × List UInt8 × List Pc :=
  (s.1 + 1, if encB l n s.1 k = true then [41] else [], s.2.2 ++ [(s.2.1 ++ (if s.1 = 0 then [] else ownB n) ++ (if encB l n s.1 k = true then [40] else []), k)])
def pfold (l : List Nd) (n : Nd) (ks : List Int) : Nat × List UInt8 × List Pc := ks.foldl (pstep l n) (0, ownA n, [])
def piecesL (l : List Nd) (n : Nd) : List Pc := (pfold l n n.kids).2.2 ++ [((pfold l n n.kids).2.1 ++ ownC n, -1)]
theorem pfold_snoc (l : List Nd) (n : Nd) (ks : List Int) (k : Int) : pfold l n (ks ++ [k]) = pstep l n (pfold l n ks) k := by unfold pfold; rw [List.foldl_append]; rfl
theorem pfold_len (l : List Nd) (n : Nd) (ks : List Int) : (pfold l n ks).1 = ks.length ∧ (pfold l n ks).2.2.length = ks.length := by
  suffices h : ∀ (ks : List Int) (s : Nat × List UInt8 × List Pc), (ks.foldl (pstep l n) s).1 = s.1 + ks.length ∧ (ks.foldl (pstep l n) s).2.2.length = s.2.2.length + ks.length by
    have := h ks (0, ownA n, [])
    simpa [pfold] using this
  intro ks
  induction ks with
  | nil => intro s; exact ⟨rfl, rfl⟩
  | cons k r ih =>
    intro s
    rw [List.foldl_cons]
    obtain ⟨h1, h2⟩ := ih (pstep l n s k)
    rw [h1, h2]
    unfold pstep
    simp only [List.length_append, List.length_cons, List.length_nil]
    omega
theorem ownA_len {n : Nd} (h : fieldsB n = true) : (ownA n).length ≤ 52 := by
  have := wordW_len n
  unfold ownA
  split
  · next h3 => have := name_len h h3; omega
  · repeat' split
    all_goals first | (simp only [List.length_append, List.length_cons, List.length_nil]; omega) | (simp; done) | omega
theorem ownB_len (n : Nd) : (ownB n).length ≤ 52 := by
  have := wordW_len n
  unfold ownB
  split
  · simp only [List.length_append, List.length_cons, List.length_nil]; omega
  · simp
theorem ownC_len (n : Nd) : (ownC n).length ≤ 52 := by
  have := wordW_len n
  unfold ownC
  repeat' split
  all_goals first | (simp; done) | omega
theorem ptext_len (l : List Nd) {n : Nd} (h : fieldsB n = true) (ks : List Int) : (pfold l n ks).2.1.length ≤ 52 := by
  suffices hh : ∀ (ks : List Int) (s : Nat × List UInt8 × List Pc), s.2.1.length ≤ 52 → (ks.foldl (pstep l n) s).2.1.length ≤ 52 by
    exact hh ks _ (ownA_len h)
  intro ks
  induction ks with
  | nil => intro s hs; exact hs
  | cons k r ih =>
    intro s _
    rw [List.foldl_cons]
    refine ih _ ?_
    unfold pstep
    split <;> simp

theorem cells_eq {s : List UInt8} {X : ByteArray} {k : Int} (h : Lex.bytes s = X) : #[Value.string X, Value.int .i64 k] = (cellsP (s, k)).toArray := by subst h; rfl
/-- A row's block is no box of another size. -/
theorem ne_row {w : World} {base : Nat} {v : Value} {n : Nat} {xs vs : List Value} {g : Nat} (h : w.ownsRow base 50 2 v n xs) (_hb : Blk w g vs) (hg : g < base) : some g ≠ v.ownBlock := fun e => by
  have := (h.lt g e.symm).1
  omega
set_option maxHeartbeats 16000000 in
set_option maxRecDepth 100000 in
theorem landPieces (A : Option Addr) (n c : Nat) (l : List Nd) (nd : Nd) (K : Option Addr) (m cK : Nat) (w : World) (hl : l.length = n) (hn : n ≤ 1048576) (h : Nodes Any w A l) (hT : Tabs w)
    (hk : 1 ≤ nd.kind ∧ nd.kind ≤ 22) (hf : fieldsB nd = true) (hm : nd.kids.length = m) (hm2 : m ≤ 2) (hK : Rd .i64 w K m nd.kids) (hkid : ∀ j, j < m → ∃ t : Nat, nd.kids[j]?.getD 0 = (t : Int) ∧ t < n ∧ nd.kids.take (j + 1) = nd.kids.take j ++ [(t : Int)]) :
    Calls Tryz.prog 17 #[.slice A n c, .agg #[.int .i64 nd.kind, .string nd.name, .int .i64 nd.lo, .int .i64 nd.hi, .slice K m cK]] w fun e w' =>
      ∃ v, e = .returned v ∧ w'.ownsRow (w.heap.size + 1) 50 2 v (piecesL l nd).length (rowP (piecesL l nd)) ∧ Below w.heap.size w w' := by
  have HO := Lib.hid (fun W (hb : Below w.heap.size w W) => landOwn nd K m cK W (hT.later hb) hk hm hm2)
  have HE := Lib.hid (fun W (hb : Below w.heap.size w W) (j t : Nat) (nt : Nd) (hj : j < m) (ht : nd.kids[j]?.getD 0 = (t : Int)) (hnt : l[t]? = some nt) => landEnclosed A n c l nd K m cK j t nt W hl hn (h.below hb) hm (hK.below hb) hj hm2 ht hnt)
  have HL := Lib.hid hl
  have HKD := Lib.hid hkid
  have HRK := Lib.hid hK
  have HMK := Lib.hid hm
  have HF := Lib.hid hf
  have HB0 := Lib.hid ((Below.refl w.heap.size w).alloc (Nat.le_refl _) (.cells #[.int .i64 nd.kind, .string nd.name, .int .i64 nd.lo, .int .i64 nd.hi, .slice K m cK] 42))
  have HX := Lib.hid (Blk.new w #[.int .i64 nd.kind, .string nd.name, .int .i64 nd.lo, .int .i64 nd.hi, .slice K m cK] 42 _ rfl)
  have hsA := ownA_len hf
  have hsB := ownB_len nd
  have hsC := ownC_len nd
  obtain ⟨BT, hBT⟩ : ∃ x, Lex.bytes (ownB nd) = x := ⟨_, rfl⟩
  obtain ⟨CT, hCT⟩ : ∃ x, Lex.bytes (ownC nd) = x := ⟨_, rfl⟩
  obtain ⟨AT, hAT⟩ : ∃ x, Lex.bytes (ownA nd) = x := ⟨_, rfl⟩
  have zA : AT.size ≤ 52 := by rw [← hAT, bytes_size]; exact hsA
  have zB : BT.size ≤ 52 := by rw [← hBT, bytes_size]; exact hsB
  have zC : CT.size ≤ 52 := by rw [← hCT, bytes_size]; exact hsC
  rw [hAT, hBT, hCT] at HO
  have HAT := Lib.hid hAT
  have HBT := Lib.hid hBT
  have HCT := Lib.hid hCT
  have hm64 : (m : Int) ≤ 2 := by omega
  have hm0 : (0 : Int) ≤ (m : Int) := by omega
  clear hl hn h hT hk hf hm hK hkid hsA hsB hsC hAT hBT hCT
  have x0 := HX.out.cell 0 rfl
  have x1 := HX.out.cell 1 rfl
  have x2 := HX.out.cell 2 rfl
  have x3 := HX.out.cell 3 rfl
  have x4 := HX.out.cell 4 rfl
  go_enter Tryz.func17, Tryz.ntmps17
  go_wp2_with (go_at_call 31; refine (HO.out _ HB0.out).mono ?_; rintro e w1 ⟨rfl, hb1⟩; have y4 := ((HX.out.later hb1).alloc (.cells #[] 50)).cell 4 rfl)
  have hw1 : w.heap.size < w1.heap.size := Nat.lt_of_lt_of_le (by simp) hb1.size
  have HB1 := Lib.hid (HB0.out.trans (hb1.mono HB0.out.size))
  have HX1 := Lib.hid (HX.out.later hb1)
  have HP0 := Lib.hid (World.ownsRow_made (base := w.heap.size + 1) (size := 2) (e := 50) w1 #[] 0 hw1 (by decide) rfl)
  have HX2 := Lib.hid (HX1.out.alloc (.cells #[] 50))
  have HB2 := Lib.hid (HB1.out.alloc (Nat.le_of_lt hw1) (.cells #[] 50))
  clear x0 x1 x2 x3 x4 hb1 y4
  go_loopw [5, 8, 22] (fun tx v i wx => ∃ j : Nat, j ≤ m ∧ i = .int .i64 j ∧ tx = .string (Lex.bytes (pfold l nd (nd.kids.take j)).2.1) ∧ Hid (wx.ownsRow (w.heap.size + 1) 50 2 v j (rowP (pfold l nd (nd.kids.take j)).2.2)) ∧ Hid (Below w.heap.size w wx) ∧ Hid (Blk wx w.heap.size [.int .i64 nd.kind, .string nd.name, .int .i64 nd.lo, .int .i64 nd.hi, .slice K m cK])) (fun _ _ i _ => m - (intOf i).toNat)
  case atStart => exact ⟨0, Nat.zero_le _, rfl, by rw [List.take_zero]; exact congrArg Value.string HAT.out.symm, by rw [List.take_zero]; exact HP0.out, HB2.out, HX2.out⟩
  case round =>
    obtain ⟨j, hj, rfl, rfl, HPR, HB, HXB⟩ := hrel
    have htl := ptext_len l HF.out (nd.kids.take j)
    obtain ⟨hq1, hq2⟩ := pfold_len l nd (nd.kids.take j)
    have hlj : (nd.kids.take j).length = j := by rw [List.length_take, HMK.out]; omega
    rw [hlj] at hq1 hq2
    obtain ⟨TX, hTX⟩ : ∃ x, Lex.bytes (pfold l nd (nd.kids.take j)).2.1 = x := ⟨_, rfl⟩
    have zT : TX.size ≤ 52 := by rw [← hTX, bytes_size]; exact htl
    rw [hTX]
    have HTX := Lib.hid hTX
    have HQ1 := Lib.hid hq1
    have HQ2 := Lib.hid hq2
    have hj0 : (0 : Int) ≤ (j : Int) := by omega
    have x0 := HXB.out.cell 0 rfl
    have x1 := HXB.out.cell 1 rfl
    have x2 := HXB.out.cell 2 rfl
    have x3 := HXB.out.cell 3 rfl
    have x4 := HXB.out.cell 4 rfl
    clear htl hlj hTX hq1 hq2
    by_cases hjm : j < m
    · have hjm' : (j : Int) < (m : Int) := by omega
      obtain ⟨t, ht, htn, htake⟩ := HKD.out j hjm
      obtain ⟨nt, hnt⟩ : ∃ nt, l[t]? = some nt := ⟨_, List.getElem?_eq_getElem (by have := HL.out; omega)⟩
      have hka : kindAt l (t : Int) = nt.kind := by unfold kindAt; rw [Int.toNat_natCast, hnt]; rfl
      obtain ⟨bk, ok, eK, hkc⟩ := (HRK.out.below HB.out).cell (by omega)
      have ck := hkc j hjm
      rw [ht] at ck
      have HEN := Lib.hid (fun W (hb : Below w.heap.size w W) => HE.out W hb j t nt hjm ht hnt)
      obtain ⟨bb, hbb⟩ : ∃ bb, decide (rank nt.kind < leastS nd.kind j) = bb := ⟨_, rfl⟩
      rw [hbb] at HEN
      have HST := Lib.hid (show pfold l nd (nd.kids.take (j + 1)) = (j + 1, if bb = true then [41] else [], (pfold l nd (nd.kids.take j)).2.2 ++ [((pfold l nd (nd.kids.take j)).2.1 ++ (if j = 0 then [] else ownB nd) ++ (if bb = true then [40] else []), (t : Int))]) by
        rw [htake, pfold_snoc]
        unfold pstep encB
        rw [HQ1.out, hka, hbb])
      have t1 : ¬ 9223372036854775807 < TX.size + BT.size := by omega
      have t2 : ¬ 9223372036854775807 < TX.size + BT.size + 1 := by omega
      have t3 : ¬ 9223372036854775807 < TX.size + 1 := by omega
      subst eK
      clear hkc ht htake hnt hka hbb
      by_cases h0 : j = 0
      · have z1 : decide ((0 : Int) < (j : Int)) = false := decide_eq_false (by omega)
        have z2 : decide (0 < j) = false := decide_eq_false (by omega)
        have z3 : ¬ (0 : Int) < (j : Int) := by omega
        cases bb
        · have HPX := Lib.hid (show Lex.bytes ((pfold l nd (nd.kids.take j)).2.1 ++ (if j = 0 then [] else ownB nd) ++ (if false = true then [40] else [])) = TX by rw [if_pos h0, List.append_nil, if_neg (by decide), List.append_nil, HTX.out])
          clear h0
          go_wp2_with (first
            | (go_at_call 32; refine (HEN.out _ HB.out).mono ?_; rintro e w2 ⟨rfl, hb2⟩)
            | (at_builtin; go_loud (refine append_pc rfl _ _ rfl (w.heap.size + 1) _ (pfold l nd (nd.kids.take j)).2.2 rfl (by rw [HQ2.out]; exact below_row HPR.out hb2) ((pfold l nd (nd.kids.take j)).2.1 ++ (if j = 0 then [] else ownB nd) ++ (if false = true then [40] else []), (t : Int)) 50 _ (cells_eq HPX.out) rfl (by rw [HQ2.out]; omega) (Nat.le_trans HXB.out.1 hb2.size) ?_; intro v3 w3 hown3 hgr3)))
          go_roundw
          case rel =>
            refine ⟨j + 1, by omega, by go_num, by rw [HST.out]; rfl, ?_, ?_, ?_⟩
            · rw [HST.out]
              rw [List.length_append, HQ2.out] at hown3
              exact hown3
            · exact ((HB.out.trans (hb2.mono HB.out.size)).alloc (Nat.le_trans HB.out.size hb2.size) _).grown hgr3 (by simp; have := HB.out.size; have := hb2.size; omega) (fun z hz => Nat.le_of_succ_le (HPR.out.lt z hz).1)
            · exact ((HXB.out.later hb2).alloc _).grown hgr3 (ne_row HPR.out HXB.out (Nat.lt_succ_self _))
          case measure => simp [intOf]; omega
        · have HPX := Lib.hid (show Lex.bytes ((pfold l nd (nd.kids.take j)).2.1 ++ (if j = 0 then [] else ownB nd) ++ (if true = true then [40] else [])) = TX ++ { data := #[40] } by rw [if_pos h0, List.append_nil, if_pos rfl, bytes_plus, HTX.out]; rfl)
          clear h0
          go_wp2_with (first
            | (go_at_call 32; refine (HEN.out _ HB.out).mono ?_; rintro e w2 ⟨rfl, hb2⟩)
            | (at_builtin; go_loud (refine append_pc rfl _ _ rfl (w.heap.size + 1) _ (pfold l nd (nd.kids.take j)).2.2 rfl (by rw [HQ2.out]; exact below_row HPR.out hb2) ((pfold l nd (nd.kids.take j)).2.1 ++ (if j = 0 then [] else ownB nd) ++ (if true = true then [40] else []), (t : Int)) 50 _ (cells_eq HPX.out) rfl (by rw [HQ2.out]; omega) (Nat.le_trans HXB.out.1 hb2.size) ?_; intro v3 w3 hown3 hgr3)))
          go_roundw
          case rel =>
            refine ⟨j + 1, by omega, by go_num, by rw [HST.out]; rfl, ?_, ?_, ?_⟩
            · rw [HST.out]
              rw [List.length_append, HQ2.out] at hown3
              exact hown3
            · exact ((HB.out.trans (hb2.mono HB.out.size)).alloc (Nat.le_trans HB.out.size hb2.size) _).grown hgr3 (by simp; have := HB.out.size; have := hb2.size; omega) (fun z hz => Nat.le_of_succ_le (HPR.out.lt z hz).1)
            · exact ((HXB.out.later hb2).alloc _).grown hgr3 (ne_row HPR.out HXB.out (Nat.lt_succ_self _))
          case measure => simp [intOf]; omega
      · have z1 : decide ((0 : Int) < (j : Int)) = true := decide_eq_true (by omega)
        have z2 : decide (0 < j) = true := decide_eq_true (by omega)
        have z3 : (0 : Int) < (j : Int) := by omega
        cases bb
        · have HPX := Lib.hid (show Lex.bytes ((pfold l nd (nd.kids.take j)).2.1 ++ (if j = 0 then [] else ownB nd) ++ (if false = true then [40] else [])) = TX ++ BT by rw [if_neg h0, if_neg (by decide), List.append_nil, bytes_plus, HTX.out, HBT.out])
          clear h0
          go_wp2_with (first
            | (go_at_call 32; refine (HEN.out _ HB.out).mono ?_; rintro e w2 ⟨rfl, hb2⟩)
            | (at_builtin; go_loud (refine append_pc rfl _ _ rfl (w.heap.size + 1) _ (pfold l nd (nd.kids.take j)).2.2 rfl (by rw [HQ2.out]; exact below_row HPR.out hb2) ((pfold l nd (nd.kids.take j)).2.1 ++ (if j = 0 then [] else ownB nd) ++ (if false = true then [40] else []), (t : Int)) 50 _ (cells_eq HPX.out) rfl (by rw [HQ2.out]; omega) (Nat.le_trans HXB.out.1 hb2.size) ?_; intro v3 w3 hown3 hgr3)))
          go_roundw
          case rel =>
            refine ⟨j + 1, by omega, by go_num, by rw [HST.out]; rfl, ?_, ?_, ?_⟩
            · rw [HST.out]
              rw [List.length_append, HQ2.out] at hown3
              exact hown3
            · exact ((HB.out.trans (hb2.mono HB.out.size)).alloc (Nat.le_trans HB.out.size hb2.size) _).grown hgr3 (by simp; have := HB.out.size; have := hb2.size; omega) (fun z hz => Nat.le_of_succ_le (HPR.out.lt z hz).1)
            · exact ((HXB.out.later hb2).alloc _).grown hgr3 (ne_row HPR.out HXB.out (Nat.lt_succ_self _))
          case measure => simp [intOf]; omega
        · have HPX := Lib.hid (show Lex.bytes ((pfold l nd (nd.kids.take j)).2.1 ++ (if j = 0 then [] else ownB nd) ++ (if true = true then [40] else [])) = TX ++ BT ++ { data := #[40] } by rw [if_neg h0, if_pos rfl, bytes_plus, bytes_plus, HTX.out, HBT.out]; rfl)
          clear h0
          go_wp2_with (first
            | (go_at_call 32; refine (HEN.out _ HB.out).mono ?_; rintro e w2 ⟨rfl, hb2⟩)
            | (at_builtin; go_loud (refine append_pc rfl _ _ rfl (w.heap.size + 1) _ (pfold l nd (nd.kids.take j)).2.2 rfl (by rw [HQ2.out]; exact below_row HPR.out hb2) ((pfold l nd (nd.kids.take j)).2.1 ++ (if j = 0 then [] else ownB nd) ++ (if true = true then [40] else []), (t : Int)) 50 _ (cells_eq HPX.out) rfl (by rw [HQ2.out]; omega) (Nat.le_trans HXB.out.1 hb2.size) ?_; intro v3 w3 hown3 hgr3)))
          go_roundw
          case rel =>
            refine ⟨j + 1, by omega, by go_num, by rw [HST.out]; rfl, ?_, ?_, ?_⟩
            · rw [HST.out]
              rw [List.length_append, HQ2.out] at hown3
              exact hown3
            · exact ((HB.out.trans (hb2.mono HB.out.size)).alloc (Nat.le_trans HB.out.size hb2.size) _).grown hgr3 (by simp; have := HB.out.size; have := hb2.size; omega) (fun z hz => Nat.le_of_succ_le (HPR.out.lt z hz).1)
            · exact ((HXB.out.later hb2).alloc _).grown hgr3 (ne_row HPR.out HXB.out (Nat.lt_succ_self _))
          case measure => simp [intOf]; omega
    · have e : j = m := by omega
      subst e
      have hge : decide ((j : Int) < (j : Int)) = false := by simp
      have HTK := Lib.hid (show nd.kids.take j = nd.kids from List.take_of_length_le (by rw [HMK.out]; exact Nat.le_refl _))
      have HPX := Lib.hid (show Lex.bytes ((pfold l nd (nd.kids.take j)).2.1 ++ ownC nd) = TX ++ CT by rw [bytes_plus, HTX.out, HCT.out])
      have t1 : ¬ 9223372036854775807 < TX.size + CT.size := by omega
      go_wp2_with (at_builtin; go_loud (refine append_pc rfl _ _ rfl (w.heap.size + 1) _ (pfold l nd (nd.kids.take j)).2.2 rfl (by rw [HQ2.out]; exact HPR.out) ((pfold l nd (nd.kids.take j)).2.1 ++ ownC nd, (-1 : Int)) 50 _ (cells_eq HPX.out) rfl (by rw [HQ2.out]; omega) HXB.out.1 ?_; intro v3 w3 hown3 hgr3))
      go_ret
      refine ⟨_, rfl, ?_, ?_⟩
      · have e1 : piecesL l nd = (pfold l nd (nd.kids.take j)).2.2 ++ [((pfold l nd (nd.kids.take j)).2.1 ++ ownC nd, (-1 : Int))] := by unfold piecesL; rw [HTK.out]
        rw [e1]
        exact hown3
      · exact (HB.out.alloc HB.out.size _).grown hgr3 (by simp; have := HB.out.size; omega) (fun z hz => Nat.le_of_succ_le (HPR.out.lt z hz).1)
end Go.Proofs.YthcbgneoonekkaaGreatDoor.Show
