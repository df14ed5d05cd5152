/-
  The reference's pool taken apart: its two rows, appended to and stored into (stage 13). By an AI agent.
-/
import Derived.Test.YtimbbfneaaglbaaGreatGHeadsPlays7
namespace Go.Proofs.YtimbbfneaaglbaaGreat.Heads
open Go.RowKit Go.Proofs.YtimbbfneaaglbaaGreat.Ints Go.Proofs.YtimbbfneaaglbaaGreat.Mem Go.Proofs.YtimbbfneaaglbaaGreat.Trace Go.Proofs.YtimbbfneaaglbaaGreat.Record Go.Proofs.YtimbbfneaaglbaaGreat.Log Go.Proofs.YtimbbfneaaglbaaGreat.Src

structure RQ (w : World) (g : Nat) (D : Nat → Prop) (s : PS) (v1 : Value) (l1 : List Bool) (v2 : Value) (l2 : List Int) : Prop where
  ex : ∃ NA nn nc EA ne ec, Blk w g [.slice NA nn nc, .slice EA ne ec, .int .i64 (s.er : Nat), .int .i64 s.size, v1, v2, .int .i64 (s.peak : Nat)] ∧
    TrOk (fun q => D q ∧ q < g) w NA nn nc EA ne ec s.t ∧ (∀ a, NA = some a → 0 < s.t.names.length → D a.block ∧ a.block < g)
  r1 : w.ownsRow (g + 1) 4 1 v1 l1.length (l1.map Value.bool)
  r2 : w.ownsRow (g + 1) 3 1 v2 l2.length (l2.map (Value.int .i64))
  d1 : ∀ q, v1.ownBlock = some q → D q
  d2 : ∀ q, v2.ownBlock = some q → D q
  dg : D g
  lt : ∀ q, D q → q < w.heap.size
theorem RP.split {w : World} {g : Nat} {D : Nat → Prop} {s : PS} (h : RP w g D s) : ∃ v1 v2 ats, RQ w g D s v1 (s.hs.map Option.isSome) v2 ats ∧ ats.length = s.hs.length ∧ ∀ (i k : Nat), s.hs[i]? = some (some k) → ats[i]? = some (k : Int) := by
  obtain ⟨NA, nn, nc, EA, ne, ec, v1, v2, ats, h1, h2, h3, h4, h5, h6, h7, h8⟩ := h.ex
  have hl : ats.length = s.hs.length := by simpa using h5.1
  refine ⟨v1, v2, ats, ⟨⟨NA, nn, nc, EA, ne, ec, h1, h2, h3⟩, ?_, by rw [hl]; exact h5, h7, h8, h.dg, h.lt⟩, hl, h6⟩
  rw [List.length_map, List.map_map]
  exact h4
theorem RQ.join {w : World} {g : Nat} {D : Nat → Prop} {s : PS} {v1 v2 : Value} {l1 : List Bool} {l2 : List Int} (h : RQ w g D s v1 l1 v2 l2) {hs : List (Option Nat)} (h1 : l1 = hs.map Option.isSome) (h2 : l2.length = hs.length) (h3 : ∀ (i k : Nat), hs[i]? = some (some k) → l2[i]? = some (k : Int)) : RP w g D { s with hs := hs } := by
  obtain ⟨NA, nn, nc, EA, ne, ec, e1, e2, e3⟩ := h.ex
  refine ⟨⟨NA, nn, nc, EA, ne, ec, v1, v2, l2, e1, e2, e3, ?_, by have := h.r2; rw [h2] at this; exact this, h3, h.d1, h.d2⟩, h.dg, h.lt⟩
  have := h.r1
  rw [h1, List.length_map, List.map_map] at this
  exact this
theorem RQ.below {w w' : World} {g : Nat} {D : Nat → Prop} {s : PS} {v1 v2 : Value} {l1 : List Bool} {l2 : List Int} (h : RQ w g D s v1 l1 v2 l2) (hb : Below w.heap.size w w') : RQ w' g D s v1 l1 v2 l2 := by
  obtain ⟨NA, nn, nc, EA, ne, ec, e1, e2, e3⟩ := h.ex
  exact ⟨⟨NA, nn, nc, EA, ne, ec, e1.later hb, e2.below hb, e3⟩, below_row h.r1 hb, below_row h.r2 hb, h.d1, h.d2, h.dg, fun q hq => Nat.lt_of_lt_of_le (h.lt q hq) hb.size⟩
theorem tr_off {D : Nat → Prop} {w w' : World} {g : Nat} {NA EA : Option Addr} {nn nc ne ec : Nat} {t : Tr} (h : TrOk (fun q => D q ∧ q < g) w NA nn nc EA ne ec t) (hn : ∀ a, NA = some a → 0 < t.names.length → D a.block ∧ a.block < g) (hk : ∀ q, q < g → D q → w'.heap[q]? = w.heap[q]?) : TrOk (fun q => D q ∧ q < g) w' NA nn nc EA ne ec t :=
  ⟨h.1, h.2, strs_at h.3 (fun a e h0 => hk _ (hn a e h0).2 (hn a e h0).1), h.4, h.5.keep (fun p u hp hu => by rw [World.cell?_of_block (hk p.block hp.2 hp.1)]; exact hu), h.6, h.7⟩
theorem tr_more {D D' : Nat → Prop} {w : World} {g : Nat} {NA EA : Option Addr} {nn nc ne ec : Nat} {t : Tr} (h : TrOk (fun q => D q ∧ q < g) w NA nn nc EA ne ec t) (hd : ∀ q, D q → D' q) : TrOk (fun q => D' q ∧ q < g) w NA nn nc EA ne ec t :=
  ⟨h.1, h.2, h.3, h.4, h.5.mono (fun q _ hq => ⟨hd q hq.1, hq.2⟩), h.6, h.7⟩
section
variable {P : Program} {w : World}
/-- 'append(x, u)': a row of the call's own, one place more: where it was, or behind all. -/
theorem append_one (base : Nat) (t ty e T : TypeId) (i : TypeInfo) (z u : Value) (bytes : Nat) (ht : P.underlying t = some (.slice e)) (hi : P.info? e = some i) (hz : i.zero = some z) (hsize : i.size = 1) (hby : i.bytes = bytes) (hzs : z.cells.size = 1)
    (v : Value) (n : Nat) (xs : List Value) (hown : w.ownsRow base e 1 v n xs) (hu : u.oneCell' = true) (hn : n ≤ 1000000) (hb16 : bytes ≤ 16) (hbase : base ≤ w.heap.size) :
    ∃ v' w', (Builtin.append_ #[t, t] ty #[v, .slice (some ⟨w.heap.size, 0, none⟩) 1 1]).run P (w.alloc (.cells #[u] T)) = .ok v' w' ∧ w'.ownsRow base e 1 v' (n + 1) (xs ++ [u]) ∧ (w.alloc (.cells #[u] T)).grownBy w' v.ownBlock ∧
      (∀ q, v'.ownBlock = some q → v.ownBlock = some q ∨ w.heap.size ≤ q) := by
  have hown2 := hown.alloc (.cells #[u] T)
  have hsz : (w.alloc (.cells #[u] T)).heap.size = w.heap.size + 1 := by simp
  have hnews : ∀ j x, [u][j]? = some x → (w.alloc (.cells #[u] T)).cell? ((⟨w.heap.size, 0, none⟩ : Addr).add j) = some x := fun j x hx => by
    rcases j with _ | j
    · simp at hx
      subst hx
      exact box_cell 0 _ rfl
    · simp at hx
  have h1 : ∀ x ∈ [u], x.oneCell' = true := fun x hx => by rw [List.mem_singleton.1 hx]; exact hu
  have hbytes : (n + 1) * bytes ≤ 140737488355328 := by
    have : (n + 1) * bytes ≤ 1000001 * 16 := Nat.mul_le_mul (by omega) hb16
    omega
  obtain ⟨v', w', hrun, h2, h3, -⟩ := run_append_own (P := P) (w.alloc (.cells #[u] T)) base t ty e i z 1 bytes ht hi hz hsize hby hzs (by decide) v n xs hown2 ⟨w.heap.size, 0, none⟩ 1 1 [u] rfl hnews h1 (by unfold maxLen; omega) hbytes (by omega)
  refine ⟨v', w', hrun, h2, h3, fun q hq => ?_⟩
  rcases hown2.2 with ⟨rfl, rfl⟩ | ⟨g, cap, cur, rfl, hbg, hg, hnc, hcm, hcs, htake⟩
  · have hr := run_append_nil (P := P) (w := w.alloc (.cells #[u] T)) t ty e i z ht hi hz ⟨w.heap.size, 0, none⟩ 1 1 [u] (by rw [hsize]; rfl) hnews (by decide) (by decide) (by rw [hby]; omega)
    rw [hrun] at hr
    injection hr with hr _
    subst hr
    simp only [Value.ownBlock, Option.some.injEq] at hq
    exact .inr (by omega)
  · by_cases hroom : n + 1 ≤ cap
    · have hr := run_append_room (P := P) (w.alloc (.cells #[u] T)) t ty e i ht hi g n cap cur hg ⟨w.heap.size, 0, none⟩ 1 1 [u] (by rw [hsize]; rfl) hnews h1 hroom (by rw [hsize, hcs]; simp; omega)
      rw [hrun] at hr
      injection hr with hr _
      subst hr
      exact .inl hq
    · have holds : ∀ j x, xs[j]? = some x → (w.alloc (.cells #[u] T)).cell? ((⟨g, 0, none⟩ : Addr).add j) = some x := hown2.cells (g := g) rfl
      have hr := run_append_grow (P := P) (w := w.alloc (.cells #[u] T)) t ty e i z ht hi hz ⟨g, 0, none⟩ n cap xs (by rw [hsize]; exact hown2.1) holds ⟨w.heap.size, 0, none⟩ 1 1 [u] (by rw [hsize]; rfl) hnews (by omega) (by omega) (by rw [hby]; exact growslice_fits (by omega) hbytes)
      rw [hrun] at hr
      injection hr with hr _
      subst hr
      simp only [Value.ownBlock, Option.some.injEq] at hq
      exact .inr (by omega)
end
/-- What a step on the pool taken apart leaves. -/
def Turn2 (w w' : World) (g : Nat) (D : Nat → Prop) (s : PS) (v1 : Value) (l1 : List Bool) (v2 : Value) (l2 : List Int) : Prop := ∃ D', RQ w' g D' s v1 l1 v2 l2 ∧ (∀ q, D' q → D q ∨ w.heap.size ≤ q) ∧ Left D w w'
theorem Turn2.trans {w w1 w2 : World} {g : Nat} {D : Nat → Prop} {s : PS} {v1 v2 v3 v4 : Value} {l1 l3 : List Bool} {l2 l4 : List Int} (h : Turn2 w w1 g D s v1 l1 v2 l2) (h2 : ∀ D', RQ w1 g D' s v1 l1 v2 l2 → Turn2 w1 w2 g D' s v3 l3 v4 l4) : Turn2 w w2 g D s v3 l3 v4 l4 := by
  obtain ⟨D', h1, h3, h4⟩ := h
  obtain ⟨D2, g1, g3, g4⟩ := h2 D' h1
  refine ⟨D2, g1, fun q hq => ?_, h4.trans g4 h3⟩
  rcases g3 q hq with e | e
  · exact h3 q e
  · exact .inr (Nat.le_trans h4.size e)
theorem Turn2.refl {w : World} {g : Nat} {D : Nat → Prop} {s : PS} {v1 v2 : Value} {l1 : List Bool} {l2 : List Int} (h : RQ w g D s v1 l1 v2 l2) : Turn2 w w g D s v1 l1 v2 l2 := ⟨D, h, fun _ e => .inl e, Left.refl _ _⟩
theorem Turn2.below {w w1 : World} {g : Nat} {D : Nat → Prop} {s : PS} {v1 v2 : Value} {l1 : List Bool} {l2 : List Int} (h : RQ w g D s v1 l1 v2 l2) (hb : Below w.heap.size w w1) : Turn2 w w1 g D s v1 l1 v2 l2 := ⟨D, h.below hb, fun _ e => .inl e, Left.of_below hb⟩
theorem RQ.row1 {w w' : World} {g B : Nat} {D : Nat → Prop} {s : PS} {v1 v2 v' : Value} {l1 l1' : List Bool} {l2 : List Int} (h : RQ w g D s v1 l1 v2 l2) (hg : w.grownBy w' v1.ownBlock) (hr : w'.ownsRow (g + 1) 4 1 v' l1'.length (l1'.map Value.bool)) (_hB : B ≤ w.heap.size)
    (hp : ∀ q, v'.ownBlock = some q → v1.ownBlock = some q ∨ B ≤ q) : ∃ D', RQ (w'.setCell ⟨g, 4, none⟩ v') g D' s v' l1' v2 l2 ∧ (∀ q, D' q → D q ∨ B ≤ q) ∧ Left D w (w'.setCell ⟨g, 4, none⟩ v') := by
  obtain ⟨NA, nn, nc, EA, ne, ec, e1, e2, e3⟩ := h.ex
  have hoff : ∀ q, q ≠ g → (w'.setCell ⟨g, 4, none⟩ v').heap[q]? = w'.heap[q]? := fun q hq => Below.heap_setCell w' ⟨g, 4, none⟩ _ q hq
  have hv : ∀ q, v1.ownBlock = some q → g + 1 ≤ q := fun q hq => (h.r1.lt q hq).1
  have hlow : ∀ q, q < g → D q → (w'.setCell ⟨g, 4, none⟩ v').heap[q]? = w.heap[q]? := fun q hq hd => (hoff q (by omega)).trans (hg.block q (h.lt q hd) (fun e => by have := hv q e.symm; omega))
  have hb := e1.grown hg (fun e => by have := hv g e.symm; omega)
  refine ⟨fun q => D q ∨ v'.ownBlock = some q, ⟨⟨NA, nn, nc, EA, ne, ec, by simpa using hb.set 4 v' (by simp), tr_more (tr_off e2 e3 hlow) (fun q hq => .inl hq), fun a e h0 => ⟨.inl (e3 a e h0).1, (e3 a e h0).2⟩⟩, own_at hr (fun q hq => hoff q (by have := (hr.lt q hq).1; omega)), ?_, fun q hq => .inr hq, fun q hq => .inl (h.d2 q hq), .inl h.dg, ?_⟩, ?_, ?_⟩
  · refine own_at h.r2 (fun q hq => (hoff q (by have := (h.r2.lt q hq).1; omega)).trans (hg.block q (h.r2.lt q hq).2 (fun e => ?_)))
    exact bools_apart h.r1 h.r2 q e.symm hq
  · intro q hq
    have hsz : (w'.setCell ⟨g, 4, none⟩ v').heap.size = w'.heap.size := by simp
    rw [hsz]
    rcases hq with hq | hq
    · exact Nat.lt_of_lt_of_le (h.lt q hq) hg.size
    · exact (hr.lt q hq).2
  · intro q hq
    rcases hq with hq | hq
    · exact .inl hq
    · rcases hp q hq with e | e
      · exact .inl (h.d1 q e)
      · exact .inr e
  · exact (Left.of_grown hg (fun q e => h.d1 q e)).trans (Left.of_grown (D := D) (grown_cell w' ⟨g, 4, none⟩ v') (fun q e => by injection e with e; subst e; exact h.dg)) (fun q hq => .inl hq)
theorem RQ.row2 {w w' : World} {g B : Nat} {D : Nat → Prop} {s : PS} {v1 v2 v' : Value} {l1 : List Bool} {l2 l2' : List Int} (h : RQ w g D s v1 l1 v2 l2) (hg : w.grownBy w' v2.ownBlock) (hr : w'.ownsRow (g + 1) 3 1 v' l2'.length (l2'.map (Value.int .i64))) (_hB : B ≤ w.heap.size)
    (hp : ∀ q, v'.ownBlock = some q → v2.ownBlock = some q ∨ B ≤ q) : ∃ D', RQ (w'.setCell ⟨g, 5, none⟩ v') g D' s v1 l1 v' l2' ∧ (∀ q, D' q → D q ∨ B ≤ q) ∧ Left D w (w'.setCell ⟨g, 5, none⟩ v') := by
  obtain ⟨NA, nn, nc, EA, ne, ec, e1, e2, e3⟩ := h.ex
  have hoff : ∀ q, q ≠ g → (w'.setCell ⟨g, 5, none⟩ v').heap[q]? = w'.heap[q]? := fun q hq => Below.heap_setCell w' ⟨g, 5, none⟩ _ q hq
  have hv : ∀ q, v2.ownBlock = some q → g + 1 ≤ q := fun q hq => (h.r2.lt q hq).1
  have hlow : ∀ q, q < g → D q → (w'.setCell ⟨g, 5, none⟩ v').heap[q]? = w.heap[q]? := fun q hq hd => (hoff q (by omega)).trans (hg.block q (h.lt q hd) (fun e => by have := hv q e.symm; omega))
  have hb := e1.grown hg (fun e => by have := hv g e.symm; omega)
  refine ⟨fun q => D q ∨ v'.ownBlock = some q, ⟨⟨NA, nn, nc, EA, ne, ec, by simpa using hb.set 5 v' (by simp), tr_more (tr_off e2 e3 hlow) (fun q hq => .inl hq), fun a e h0 => ⟨.inl (e3 a e h0).1, (e3 a e h0).2⟩⟩, ?_, own_at hr (fun q hq => hoff q (by have := (hr.lt q hq).1; omega)), fun q hq => .inl (h.d1 q hq), fun q hq => .inr hq, .inl h.dg, ?_⟩, ?_, ?_⟩
  · refine own_at h.r1 (fun q hq => (hoff q (by have := (h.r1.lt q hq).1; omega)).trans (hg.block q (h.r1.lt q hq).2 (fun e => ?_)))
    exact bools_apart h.r1 h.r2 q hq e.symm
  · intro q hq
    have hsz : (w'.setCell ⟨g, 5, none⟩ v').heap.size = w'.heap.size := by simp
    rw [hsz]
    rcases hq with hq | hq
    · exact Nat.lt_of_lt_of_le (h.lt q hq) hg.size
    · exact (hr.lt q hq).2
  · intro q hq
    rcases hq with hq | hq
    · exact .inl hq
    · rcases hp q hq with e | e
      · exact .inl (h.d2 q e)
      · exact .inr e
  · exact (Left.of_grown hg (fun q e => h.d2 q e)).trans (Left.of_grown (D := D) (grown_cell w' ⟨g, 5, none⟩ v') (fun q e => by injection e with e; subst e; exact h.dg)) (fun q hq => .inl hq)
/-- A place of a row is stored into. -/
theorem RQ.set1 {w : World} {g g1 n c : Nat} {D : Nat → Prop} {s : PS} {v2 : Value} {l1 : List Bool} {l2 : List Int} (h : RQ w g D s (.slice (some ⟨g1, 0, none⟩) n c) l1 v2 l2) (j : Nat) (u : Bool) :
    Turn2 w (w.setCell ⟨g1, j, none⟩ (.bool u)) g D s (.slice (some ⟨g1, 0, none⟩) n c) (l1.set j u) v2 l2 := by
  obtain ⟨NA, nn, nc, EA, ne, ec, e1, e2, e3⟩ := h.ex
  have hn : n = l1.length := by
    obtain ⟨A, c', e, -⟩ := own_slice h.r1
    injection e
  subst hn
  have hg1 := (h.r1.lt g1 rfl).1
  have hoff : ∀ q, q ≠ g1 → (w.setCell ⟨g1, j, none⟩ (.bool u)).heap[q]? = w.heap[q]? := fun q hq => Below.heap_setCell w ⟨g1, j, none⟩ _ q hq
  refine ⟨D, ⟨⟨NA, nn, nc, EA, ne, ec, e1.same (by simp) (hoff g (by omega)), tr_off e2 e3 (fun q hq _ => hoff q (by omega)), e3⟩, ?_, own_at h.r2 (fun q hq => hoff q (fun e => bools_apart h.r1 h.r2 q (by rw [e]; rfl) hq)), h.d1, h.d2, h.dg, fun q hq => by have := h.lt q hq; simpa using this⟩, fun q hq => .inl hq, Left.of_grown (grown_cell w ⟨g1, j, none⟩ (.bool u)) (fun q e => h.d1 q e)⟩
  rw [List.length_set, List.map_set]
  exact (h.r1.stored j _).1
theorem RQ.set2 {w : World} {g g2 n c : Nat} {D : Nat → Prop} {s : PS} {v1 : Value} {l1 : List Bool} {l2 : List Int} (h : RQ w g D s v1 l1 (.slice (some ⟨g2, 0, none⟩) n c) l2) (j : Nat) (u : Int) :
    Turn2 w (w.setCell ⟨g2, j, none⟩ (.int .i64 u)) g D s v1 l1 (.slice (some ⟨g2, 0, none⟩) n c) (l2.set j u) := by
  obtain ⟨NA, nn, nc, EA, ne, ec, e1, e2, e3⟩ := h.ex
  have hn : n = l2.length := by
    obtain ⟨A, c', e, -⟩ := own_slice h.r2
    injection e
  subst hn
  have hg1 := (h.r2.lt g2 rfl).1
  have hoff : ∀ q, q ≠ g2 → (w.setCell ⟨g2, j, none⟩ (.int .i64 u)).heap[q]? = w.heap[q]? := fun q hq => Below.heap_setCell w ⟨g2, j, none⟩ _ q hq
  refine ⟨D, ⟨⟨NA, nn, nc, EA, ne, ec, e1.same (by simp) (hoff g (by omega)), tr_off e2 e3 (fun q hq _ => hoff q (by omega)), e3⟩, own_at h.r1 (fun q hq => hoff q (fun e => bools_apart h.r1 h.r2 q hq (by rw [e]; rfl))), ?_, h.d1, h.d2, h.dg, fun q hq => by have := h.lt q hq; simpa using this⟩, fun q hq => .inl hq, Left.of_grown (grown_cell w ⟨g2, j, none⟩ (.int .i64 u)) (fun q e => h.d2 q e)⟩
  rw [List.length_set, List.map_set]
  exact (h.r2.stored j _).1
/-- Together again. -/
theorem Turn2.join {w w' : World} {g : Nat} {D : Nat → Prop} {s : PS} {v1 v2 : Value} {l1 : List Bool} {l2 : List Int} (h : Turn2 w w' g D s v1 l1 v2 l2) {hs : List (Option Nat)} (h1 : l1 = hs.map Option.isSome) (h2 : l2.length = hs.length) (h3 : ∀ (i k : Nat), hs[i]? = some (some k) → l2[i]? = some (k : Int)) : Turn w w' g D { s with hs := hs } := by
  obtain ⟨D', g1, g2, g3⟩ := h
  exact ⟨D', g1.join h1 h2 h3, g2, g3⟩
end Go.Proofs.YtimbbfneaaglbaaGreat.Heads
