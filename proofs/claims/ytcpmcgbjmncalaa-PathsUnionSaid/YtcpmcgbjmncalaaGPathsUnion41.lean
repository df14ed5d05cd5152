/-
  The rounds of the landed own, one after the other (stage 14). By an AI agent.
-/
import Derived.Test.YtcpmcgbjmncalaaGPathsUnion35
namespace Go.Proofs.Ytcpmcgbjmncalaa.Paths
open Go.RowKit Go.Shelf Go.Proofs.Ytcpmcgbjmncalaa.Ints Go.Proofs.Ytcpmcgbjmncalaa.Mem Go.Proofs.Ytcpmcgbjmncalaa.Src Go.Proofs.Ytcpmcgbjmncalaa.Tree Go.Proofs.Ytcpmcgbjmncalaa.BitsWalks Go.Proofs.Ytcpmcgbjmncalaa.RdW Go.Proofs.Ytcpmcgbjmncalaa.Words Go.Proofs.Ytcpmcgbjmncalaa.Round

attribute [local go_sem] Oper.semAt_some wide_fn wide_depth

theorem Left.trans' {D D1 : Nat → Prop} {w w1 w2 : World} (h : Left D w w1) (h2 : Left D1 w1 w2) (hd : ∀ q, D1 q → D q ∨ w.heap.size ≤ q) : Left D w w2 :=
  ⟨h2.os.trans h.os, h2.tape.trans h.tape, h2.output.trans h.output, Nat.le_trans h.size h2.size, fun q hq hn => (h2.block q (Nat.lt_of_lt_of_le hq h.size) (fun e => (hd q e).elim hn (fun h9 => by omega))).trans (h.block q hq hn)⟩
theorem ownF_len (l : List Nd) (kd : Int) {n : Nat} : ∀ (k : Nat) (is : List (Ix n)), is.length = k → (ownF l kd is).2.length ≤ k := by
  intro k
  induction k with
  | zero =>
    intro is h
    rw [List.eq_nil_of_length_eq_zero h]
    exact Nat.le_refl _
  | succ k ih =>
    intro is h
    obtain ⟨ys, y, rfl⟩ : ∃ ys y, is = ys ++ [y] := by
      have hne : is ≠ [] := fun e => by rw [e] at h; cases h
      exact ⟨is.dropLast, is.getLast hne, (List.dropLast_concat_getLast hne).symm⟩
    have := ih ys (by rw [List.length_append] at h; simpa using h)
    rw [ownF_snoc]
    show (if decide (kindN l y.1 = kd) && !((ownF l kd ys).1 y.1) then (ownF l kd ys).2 ++ [y.1] else (ownF l kd ys).2).length ≤ k + 1
    split
    · rw [List.length_append]
      simp
      omega
    · omega
theorem kids_nat {l : List Nd} (h : mayL l = true) {q : Nat} (hq : q < l.length) : (kidsN l q).length ≤ 2 ∧ ∀ j, j < (kidsN l q).length → ∃ k : Nat, (kidsN l q)[j]?.getD 0 = ((k : Nat) : Int) ∧ k < q ∧ (kidsN l q).take (j + 1) = (kidsN l q).take j ++ [((k : Nat) : Int)] := by
  rcases kidc_ways (kindN l q) with e | e | e
  · obtain ⟨n, hn, e2⟩ := kind_some hq
    obtain ⟨st, -, hz, hl, -⟩ := node_over h hn
    rw [e2] at e
    rw [e] at hl
    rw [kidsN_at hn, hz, List.eq_nil_of_length_eq_zero hl]
    exact ⟨by simp [zints], fun j hj => by simp [zints] at hj⟩
  · obtain ⟨n, hn, hk, h3, -⟩ := node_one h hq e
    rw [kidsN_at hn, hk]
    refine ⟨by simp, fun j hj => ?_⟩
    obtain rfl : j = 0 := by simpa using hj
    exact ⟨q - 1, rfl, by omega, rfl⟩
  · obtain ⟨n, t, hn, hk, h3, -⟩ := node_two h hq e
    rw [kidsN_at hn, hk]
    refine ⟨by simp, fun j hj => ?_⟩
    have hj : j < 2 := hj
    rcases Nat.lt_or_ge j 1 with hj0 | hj1
    · obtain rfl : j = 0 := by omega
      exact ⟨t, rfl, by omega, rfl⟩
    · obtain rfl : j = 1 := by omega
      exact ⟨q - 1, rfl, by omega, rfl⟩
/-- A node of a list. -/
def ndN (l : List Nd) (i : Nat) : Nd := l[i]?.getD ⟨0, ⟨#[]⟩, 0, 0, []⟩
/-- A node's value. -/
def valN (l : List Nd) (Fk : Nat → Option Addr × Nat) (i : Nat) : Value := .agg #[.int .i64 (kindN l i), .string (ndN l i).name, .int .i64 (ndN l i).lo, .int .i64 (ndN l i).hi, .slice (Fk i).1 (kidsN l i).length (Fk i).2]
def PickN (S : Nat → Prop) (w : World) (A : Option Addr) (l : List Nd) (i : Nat) (t : Option Addr × Nat) : Prop := ∃ b off, A = some ⟨b, off, none⟩ ∧ S b ∧ w.cell? ⟨b, off + i * 5, none⟩ = some (.int .i64 (kindN l i)) ∧ w.cell? ⟨b, off + i * 5 + 1, none⟩ = some (.string (ndN l i).name) ∧ w.cell? ⟨b, off + i * 5 + 2, none⟩ = some (.int .i64 (ndN l i).lo) ∧
  w.cell? ⟨b, off + i * 5 + 3, none⟩ = some (.int .i64 (ndN l i).hi) ∧ w.cell? ⟨b, off + i * 5 + 4, none⟩ = some (.slice t.1 (kidsN l i).length t.2) ∧ Rd .i64 w t.1 (kidsN l i).length (kidsN l i) ∧ (kidsN l i).length ≤ t.2 ∧ ∀ a, t.1 = some a → 0 < (kidsN l i).length → S a.block
theorem nodes_pick {S : Nat → Prop} {w : World} {A : Option Addr} {l : List Nd} (h : Nodes S w A l) : ∃ Fk : Nat → Option Addr × Nat, ∀ i, i < l.length → PickN S w A l i (Fk i) := by
  have h2 : ∀ i, ∃ t : Option Addr × Nat, i < l.length → PickN S w A l i t := fun i => by
    by_cases hi : i < l.length
    · obtain ⟨b, off, e, hns⟩ := h (by omega)
      obtain ⟨nd, hnd⟩ : ∃ nd, l[i]? = some nd := ⟨_, List.getElem?_eq_getElem hi⟩
      obtain ⟨x0, x1, x2, x3, -, -, -, -, K, cK, x4, hr, hc, -, hs, hks⟩ := hns i nd hnd
      rw [Nat.mul_comm 5 i] at x0 x1 x2 x3 x4
      have e1 : ndN l i = nd := by unfold ndN; rw [hnd]; rfl
      refine ⟨(K, cK), fun _ => ⟨b, off, e, hs, ?_⟩⟩
      rw [kindN, hnd, kidsN_at hnd, e1]
      exact ⟨x0, x1, x2, x3, x4, hr, hc, hks⟩
    · exact ⟨(none, 0), fun e => absurd e hi⟩
  exact Classical.skolem.1 h2
theorem PickN.left {S : Nat → Prop} {w w' : World} {A : Option Addr} {l : List Nd} {i : Nat} {t : Option Addr × Nat} (h : PickN S w A l i t) (hL : ∀ q, S q → w'.heap[q]? = w.heap[q]?) : PickN S w' A l i t := by
  obtain ⟨b, off, e, hs, x0, x1, x2, x3, x4, hr, hc, hk⟩ := h
  have go : ∀ {o : Nat} {v : Value}, w.cell? ⟨b, o, none⟩ = some v → w'.cell? ⟨b, o, none⟩ = some v := fun {o} {v} hv => (World.cell?_of_block (w := w) (a := ⟨b, o, none⟩) (hL b hs)).trans hv
  refine ⟨b, off, e, hs, go x0, go x1, go x2, go x3, go x4, ⟨hr.1, hr.2.1, fun h0 => ?_⟩, hc, hk⟩
  obtain ⟨b2, off2, e2, hc2⟩ := hr.2.2 h0
  exact ⟨b2, off2, e2, fun j hj => (World.cell?_of_block (w := w) (a := ⟨b2, off2 + j, none⟩) (hL b2 (hk _ e2 h0))).trans (hc2 j hj)⟩
/-- The state between two rounds of own. -/
structure OSt (W0 W : World) (lo n b5 BT : Nat) (fv0 : Value) (s : (Nat → Bool) × List Nat) (fv : Value) : Prop where
  x5 : Boxed W b5 27 fv
  marks : W.ownsRow lo 4 1 (.slice (some ⟨BT, 0, none⟩) n n) n (rowB n s.1)
  found : W.ownsRow lo 3 1 fv s.2.length (s.2.map fun x => Value.int .i64 ((x : Nat) : Int))
  left : Left (fun k => k = BT ∨ k = b5 ∨ fv0.ownBlock = some k) W0 W
  fresh : ∀ q, fv.ownBlock = some q → fv0.ownBlock = some q ∨ W0.heap.size ≤ q
  isSome : fv.ownBlock ≠ none
theorem OSt.own {W0 W W' : World} {lo n b5 BT : Nat} {fv0 : Value} {s : (Nat → Bool) × List Nat} {fv : Value} (h : OSt W0 W lo n b5 BT fv0 s fv) {row : Option Nat} (hg : W.grownBy W' row) (hr : ∀ r, row = some r → W0.heap.size ≤ r ∧ ∃ o : Obj, W.heap[r]? = some o ∧ o.isCells = false) : OSt W0 W' lo n b5 BT fv0 s fv := by
  have hr' : ∀ r, row = some r → ∃ o : Obj, W.heap[r]? = some o ∧ o.isCells = false := fun r e => (hr r e).2
  exact ⟨boxed_noncell h.x5 hg hr', row_noncell h.marks hg hr', row_noncell h.found hg hr', Left.own () W W' row h.left hg hr, h.fresh, h.isSome⟩
set_option maxHeartbeats 16000000 in
set_option maxRecDepth 100000 in
theorem own_range (A : Option Addr) (n c b3 b5 b6 BT bB lo : Nat) (kd : Int) (l : List Nd) (Fk : Nat → Option Addr × Nat) (fv0 v14 : Value) (ds : List Deferred) (W0 : World) (Q : Exit → Act → World → Prop) (C : Code)
    (hC : C = cBlock (cSnd (cFst (cSnd (cSnd (cSnd (cSnd (Try.f24.body.getD .skip)))))))) (hl : l.length = n) (hn : n ≤ 1048576) (hm : mayL l = true)
    (h3 : W0.cell? ⟨b3, 0, none⟩ = some (.int .i64 kd)) (x6 : Boxed W0 b6 44 (.slice (some ⟨BT, 0, none⟩) n n)) (h0 : OSt W0 W0 lo n b5 BT fv0 (fun _ => false, []) fv0) (hbB : W0.cell? ⟨bB, 0, none⟩ = some (.slice A n c)) (lo5 : lo ≤ b5) (loT : lo ≤ BT)
    (hD3 : ∀ k, (k = BT ∨ k = b5 ∨ fv0.ownBlock = some k) → k ≠ b3) (hD6 : ∀ k, (k = BT ∨ k = b5 ∨ fv0.ownBlock = some k) → k ≠ b6) (hDB : ∀ k, (k = BT ∨ k = b5 ∨ fv0.ownBlock = some k) → k ≠ bB)
    (hN : ∀ i, i < n → PickN (fun b => b < lo) W0 A l i (Fk i))
    (hdone : ∀ (D : Nat) (W : World) (fv : Value), W0.heap.size ≤ D → OSt W0 W lo n b5 BT fv0 (ownF l kd (dn n n)) fv → W.heap[D]? = some (.deferred (some [])) →
      Q .normal { tmps := #[.slice A n c, .int .i64 kd, undef, .pointer (some ⟨b3, 0, none⟩), .slice none 0 0, .pointer (some ⟨b5, 0, none⟩), .pointer (some ⟨b6, 0, none⟩), undef, undef, undef, undef, .slice A n c, .bool true, .bool false, v14, .slice A n c, .int .i64 (n : Nat), .slice (some ⟨BT, 0, none⟩) n n, .slice A n c, .func (.func 61) #[] #[.pointer (some ⟨bB, 0, none⟩)], undef, undef, undef, undef, undef, undef, undef, undef, undef, undef, undef, undef, undef, undef, undef, undef, undef, undef, undef, undef, undef, undef, undef, undef, undef, undef, undef, undef, undef, undef, undef, undef, undef, undef, undef, undef, undef, undef, undef, undef], defers := { target := .collected D, args := #[] } :: ds } W) :
    C.wpIn Fence.wide 10 Try.prog Q { tmps := #[.slice A n c, .int .i64 kd, undef, .pointer (some ⟨b3, 0, none⟩), .slice none 0 0, .pointer (some ⟨b5, 0, none⟩), .pointer (some ⟨b6, 0, none⟩), undef, undef, undef, undef, .slice A n c, .bool true, .bool false, v14, .slice A n c, .int .i64 (n : Nat), .slice (some ⟨BT, 0, none⟩) n n, .slice A n c, .func (.func 61) #[] #[.pointer (some ⟨bB, 0, none⟩)], undef, undef, undef, undef, undef, undef, undef, undef, undef, undef, undef, undef, undef, undef, undef, undef, undef, undef, undef, undef, undef, undef, undef, undef, undef, undef, undef, undef, undef, undef, undef, undef, undef, undef, undef, undef, undef, undef, undef, undef], defers := ds } W0 := by
  have lt_of : ∀ {p : Addr} {v : Value}, W0.cell? p = some v → p.block < W0.heap.size := fun h => World.block_lt_of_cell? W0 _ h
  have hlo : lo ≤ W0.heap.size := by have := h0.x5.lt; omega
  have hDlo : ∀ k, (k = BT ∨ k = b5 ∨ fv0.ownBlock = some k) → lo ≤ k ∧ k < W0.heap.size := fun k hk => by
    rcases hk with rfl | rfl | e
    · exact ⟨loT, (h0.marks.lt _ rfl).2⟩
    · exact ⟨lo5, h0.x5.lt⟩
    · exact h0.found.lt k e
  have hA : ∀ k, (k = bB ∨ k < lo) → k < W0.heap.size := fun k hk => by
    rcases hk with rfl | hk
    · exact lt_of hbB
    · omega
  have hAD : ∀ k, (k = bB ∨ k < lo) → ¬ (k = BT ∨ k = b5 ∨ fv0.ownBlock = some k) := fun k hk hd => by
    rcases hk with rfl | hk
    · exact hDB _ hd rfl
    · have := (hDlo _ hd).1
      omega
  have hseq := backN_stops 9 (by omega) bB A n c (valN l Fk) (fun k => k = bB ∨ k < lo) W0 (.inl rfl) hA (by omega) hbB (fun W hW i hi => by
    obtain ⟨b, off, e, -, x0, x1, x2, x3, x4, -⟩ := (hN i hi).left (fun q hq => hW q (.inr hq))
    exact ⟨b, off, _, _, _, _, _, e, rfl, x0, x1, x2, x3, x4⟩)
  simp only [Try.f24, Option.getD_some, cFst, cSnd, cBlock] at hC
  subst hC
  refine wpIn_rangeFunc_ownH (gf := 61) (lb := #[.pointer (some ⟨bB, 0, none⟩)]) rfl (by omega) rfl trivial (enters_of Try.func61 (by kernel_rfl) rfl) hseq
    (fun h k => KpA.trans h k) (kpA_b hA) (Below.refl _ _) (fun _ => rfl)
    (fun pre W => ∃ fv, OSt W0 W lo n b5 BT fv0 (ownF l kd pre) fv) (fun _ _ _ => False)
    (fun pre W W' row ⟨fv, h⟩ hg hr => ⟨fv, h.own hg hr⟩) (fun _ _ _ _ _ h _ _ => h) ⟨fv0, h0⟩
    (fun x a' W => ∃ Bx, W0.heap.size ≤ Bx ∧ W.heap[Bx]? = some (.cells #[.int .i64 (kindN l x.1), .string (ndN l x.1).name, .int .i64 (ndN l x.1).lo, .int .i64 (ndN l x.1).hi, .slice (Fk x.1).1 (kidsN l x.1).length (Fk x.1).2] 42 (0, 0)) ∧
      a' = { tmps := #[.slice A n c, .int .i64 kd, undef, .pointer (some ⟨b3, 0, none⟩), .slice none 0 0, .pointer (some ⟨b5, 0, none⟩), .pointer (some ⟨b6, 0, none⟩), .int .i64 ((x.1 : Nat) : Int), .pointer (some ⟨Bx, 0, none⟩), undef, undef, .slice A n c, .bool true, .bool false, v14, .slice A n c, .int .i64 (n : Nat), .slice (some ⟨BT, 0, none⟩) n n, .slice A n c, .func (.func 61) #[] #[.pointer (some ⟨bB, 0, none⟩)], .int .i64 ((x.1 : Nat) : Int), valN l Fk x.1, undef, undef, undef, undef, undef, undef, undef, undef, undef, undef, undef, undef, undef, undef, undef, undef, undef, undef, undef, undef, undef, undef, undef, undef, undef, undef, undef, undef, undef, undef, undef, undef, undef, undef, undef, undef, undef, undef], defers := [] })
    (fun x a' s W W' row h hg hr => by
      obtain ⟨Bx, h1, h2, h3⟩ := h
      have hlt : Bx < W.heap.size := (Array.getElem?_eq_some_iff.1 h2).1
      refine ⟨Bx, h1, (hg.block Bx hlt (fun e => ?_)).trans h2, h3⟩
      obtain ⟨-, o, ho, hc⟩ := hr Bx e.symm
      rw [show W.heap[Bx]? = _ from h2] at ho
      injection ho with ho
      rw [← ho] at hc
      cases hc)
    ?assign ?body ?done ?stop
  case assign =>
    rintro r pre x W K' ⟨fv, h⟩ hK
    have hal : Below W.heap.size W (W.alloc (.cells #[.int .i64 (kindN l x.1), .string (ndN l x.1).name, .int .i64 (ndN l x.1).lo, .int .i64 (ndN l x.1).hi, .slice (Fk x.1).1 (kidsN l x.1).length (Fk x.1).2] 42)) := (Below.refl _ _).alloc (Nat.le_refl _) _
    have HK := Lib.hid (hK _ _ (keeps_below hal) (kpA_left (D := fun _ => False) (Left.of_below hal) (fun k hk => ⟨Nat.lt_of_lt_of_le (hA k hk) h.left.size, fun e => e⟩)) ⟨fv, boxed_later h.x5 hal, Mem.below_row h.marks hal, Mem.below_row h.found hal, h.left.trans (Left.of_below hal), h.fresh, h.isSome⟩ ⟨W.heap.size, h.left.size, heap_alloc_new W _, rfl⟩)
    clear hK h hal
    unfold valN
    gi_wp2
    exact HK.out
  case body =>
    rintro r pre x a' W hr ⟨rc, hrc⟩ ⟨fv, h⟩ ⟨Bx, hBx, hbx, rfl⟩ hlen
    obtain ⟨b, off, eA, hbl, -, -, -, -, -, hrd, hkc, hkl⟩ := (hN x.1 x.2).left (w' := W) (fun q hq => h.left.block q (by omega) (hAD q (.inr hq)))
    obtain ⟨hk2, hks⟩ := kids_nat hm (show x.1 < l.length by rw [hl]; exact x.2)
    have h3W : W.cell? ⟨b3, 0, none⟩ = some (.int .i64 kd) := (World.cell?_of_block (w := W0) (a := ⟨b3, 0, none⟩) (h.left.block b3 (lt_of h3) (fun hd => hD3 _ hd rfl))).trans h3
    have h6W : Boxed W b6 44 (.slice (some ⟨BT, 0, none⟩) n n) := (h.left.block b6 x6.lt (fun hd => hD6 _ hd rfl)).trans x6
    refine wpIn_mono (own_body A (Fk x.1).1 n c b3 b5 b6 BT Bx lo x.1 r (Fk x.1).2 kd (kindN l x.1) (ndN l x.1).lo (ndN l x.1).hi (ndN l x.1).name (kidsN l x.1) fv v14 _ _ (ownF l kd pre).1 (ownF l kd pre).2 W _ rfl x.2 h3W h.x5 h6W h.marks h.found
      (by have := ownF_len l kd _ pre rfl; omega) hbx hrd hkc hks hk2 (fun a e h0 e2 => by have := hkl a e h0; omega) (by have := h.left.size; omega) (hD3 _ (.inl rfl))
      (fun _ W' => ownPostG W0.heap.size (KpA fun k => k = bB ∨ k < lo) (fun pre W => ∃ fv, OSt W0 W lo n b5 BT fv0 (ownF l kd pre) fv) (fun _ _ _ => False) (pre ++ [x]) W .normal { tmps := #[], defers := [] } W')
      (fun a W' fv' y5 hT' hF' hL' ho' hso' => ?_)) ?_
    · have hD' : ∀ q, (q = BT ∨ q = b5 ∨ fv.ownBlock = some q) → (q = BT ∨ q = b5 ∨ fv0.ownBlock = some q) ∨ W0.heap.size ≤ q := fun q hq => by
        rcases hq with e | e | e
        · exact .inl (.inl e)
        · exact .inl (.inr (.inl e))
        · rcases h.fresh q e with e2 | e2
          · exact .inl (.inr (.inr e2))
          · exact .inr e2
      have hsz := h.left.size
      refine ⟨⟨hL'.size, fun k o hB hk hc => ?_⟩, fun k hk => hL'.block k (by have := hA k hk; omega) (fun hd => (hD' k hd).elim (hAD k hk) (fun h9 => by have := hA k hk; omega)), fv', y5, ?_, ?_, h.left.trans' hL' hD', fun q e => ?_, hso'.elim (fun e => e ▸ h.isSome) (fun e => e)⟩
      · refine (hL'.block k (Array.getElem?_eq_some_iff.1 hk).1 (fun hd => ?_)).trans hk
        rcases hd with e | e | e
        · have := (hDlo k (.inl e)).2; omega
        · have := (hDlo k (.inr (.inl e))).2; omega
        · rcases h.found.2 with ⟨e1, -⟩ | ⟨g1, c1, cur1, e1, -, hq1, -⟩
          · rw [e1] at e; cases e
          · rw [e1] at e
            have e : some g1 = some k := e
            injection e with e
            rw [e, hk] at hq1
            injection hq1 with hq1
            rw [hq1] at hc
            cases hc
      · rw [ownF_snoc]
        exact hT'
      · rw [ownF_snoc]
        exact hF'
      · rcases ho' q e with e2 | e2
        · exact h.fresh q e2
        · exact .inr (by omega)
    · intro e a W' hp
      cases e with
      | normal => exact hp
      | ret => exact hp.elim
      | exit id => exact hp.elim
      | goto t => exact hp.elim
      | panic ch => exact hp.elim
      | outgrown => exact hp.elim
  case done =>
    rintro D ys W hD rfl ⟨fv, h⟩ hK
    exact hdone D W fv hD h hK
  case stop =>
    rintro D c pre W _ _ h _
    exact h.elim
end Go.Proofs.Ytcpmcgbjmncalaa.Paths
