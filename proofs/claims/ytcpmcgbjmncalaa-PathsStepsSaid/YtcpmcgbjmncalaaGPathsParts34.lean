/-
  The rounds of the landed own, one after the other (stage 14). By an AI agent.
  The landed own: Tests and Steps (stage 14). By an AI agent.
-/
import Derived.Test.YtcpmcgbjmncalaaGPathsParts33
import Derived.Test.YtcpmcgbjmncalaaGPathsParts31
import Derived.Test.YtcpmcgbjmncalaaGPathsParts30
namespace Go.Proofs.Ytcpmcgbjmncalaa.Paths
open Go.RowKit Go.Shelf Go.Proofs.Ytcpmcgbjmncalaa.Ints Go.Proofs.Ytcpmcgbjmncalaa.Mem Go.Proofs.Ytcpmcgbjmncalaa.Src Go.Proofs.Ytcpmcgbjmncalaa.Tree Go.Proofs.Ytcpmcgbjmncalaa.BitsWalks Go.Proofs.Ytcpmcgbjmncalaa.RdW Go.Proofs.Ytcpmcgbjmncalaa.Words Go.Proofs.Ytcpmcgbjmncalaa.Round

attribute [local go_sem] Oper.semAt_some wide_fn wide_depth

theorem Left.trans' {D D1 : Nat → Prop} {w w1 w2 : World} (h : Left D w w1) (h2 : Left D1 w1 w2) (hd : ∀ q, D1 q → D q ∨ w.heap.size ≤ q) : Left D w w2 :=
  ⟨h2.os.trans h.os, h2.tape.trans h.tape, h2.output.trans h.output, Nat.le_trans h.size h2.size, fun q hq hn => (h2.block q (Nat.lt_of_lt_of_le hq h.size) (fun e => (hd q e).elim hn (fun h9 => by omega))).trans (h.block q hq hn)⟩
theorem ownF_len (l : List Nd) (kd : Int) {n : Nat} : ∀ (k : Nat) (is : List (Ix n)), is.length = k → (ownF l kd is).2.length ≤ k := by
  intro k
  induction k with
  | zero =>
    intro is h
    rw [List.eq_nil_of_length_eq_zero h]
    exact Nat.le_refl _
  | succ k ih =>
    intro is h
    obtain ⟨ys, y, rfl⟩ : ∃ ys y, is = ys ++ [y] := by
      have hne : is ≠ [] := fun e => by rw [e] at h; cases h
      exact ⟨is.dropLast, is.getLast hne, (List.dropLast_concat_getLast hne).symm⟩
    have := ih ys (by rw [List.length_append] at h; simpa using h)
    rw [ownF_snoc]
    show (if decide (kindN l y.1 = kd) && !((ownF l kd ys).1 y.1) then (ownF l kd ys).2 ++ [y.1] else (ownF l kd ys).2).length ≤ k + 1
    split
    · rw [List.length_append]
      simp
      omega
    · omega
theorem kids_nat {l : List Nd} (h : mayL l = true) {q : Nat} (hq : q < l.length) : (kidsN l q).length ≤ 2 ∧ ∀ j, j < (kidsN l q).length → ∃ k : Nat, (kidsN l q)[j]?.getD 0 = ((k : Nat) : Int) ∧ k < q ∧ (kidsN l q).take (j + 1) = (kidsN l q).take j ++ [((k : Nat) : Int)] := by
  rcases kidc_ways (kindN l q) with e | e | e
  · obtain ⟨n, hn, e2⟩ := kind_some hq
    obtain ⟨st, -, hz, hl, -⟩ := node_over h hn
    rw [e2] at e
    rw [e] at hl
    rw [kidsN_at hn, hz, List.eq_nil_of_length_eq_zero hl]
    exact ⟨by simp [zints], fun j hj => by simp [zints] at hj⟩
  · obtain ⟨n, hn, hk, h3, -⟩ := node_one h hq e
    rw [kidsN_at hn, hk]
    refine ⟨by simp, fun j hj => ?_⟩
    obtain rfl : j = 0 := by simpa using hj
    exact ⟨q - 1, rfl, by omega, rfl⟩
  · obtain ⟨n, t, hn, hk, h3, -⟩ := node_two h hq e
    rw [kidsN_at hn, hk]
    refine ⟨by simp, fun j hj => ?_⟩
    have hj : j < 2 := hj
    rcases Nat.lt_or_ge j 1 with hj0 | hj1
    · obtain rfl : j = 0 := by omega
      exact ⟨t, rfl, by omega, rfl⟩
    · obtain rfl : j = 1 := by omega
      exact ⟨q - 1, rfl, by omega, rfl⟩
/-- A node of a list. -/
def ndN (l : List Nd) (i : Nat) : Nd := l[i]?.getD ⟨0, ⟨#[]⟩, 0, 0, []⟩
/-- A node's value. -/
def valN (l : List Nd) (Fk : Nat → Option Addr × Nat) (i : Nat) : Value := .agg #[.int .i64 (kindN l i), .string (ndN l i).name, .int .i64 (ndN l i).lo, .int .i64 (ndN l i).hi, .slice (Fk i).1 (kidsN l i).length (Fk i).2]
def PickN (S : Nat → Prop) (w : World) (A : Option Addr) (l : List Nd) (i : Nat) (t : Option Addr × Nat) : Prop := ∃ b off, A = some ⟨b, off, none⟩ ∧ S b ∧ w.cell? ⟨b, off + i * 5, none⟩ = some (.int .i64 (kindN l i)) ∧ w.cell? ⟨b, off + i * 5 + 1, none⟩ = some (.string (ndN l i).name) ∧ w.cell? ⟨b, off + i * 5 + 2, none⟩ = some (.int .i64 (ndN l i).lo) ∧
  w.cell? ⟨b, off + i * 5 + 3, none⟩ = some (.int .i64 (ndN l i).hi) ∧ w.cell? ⟨b, off + i * 5 + 4, none⟩ = some (.slice t.1 (kidsN l i).length t.2) ∧ Rd .i64 w t.1 (kidsN l i).length (kidsN l i) ∧ (kidsN l i).length ≤ t.2 ∧ ∀ a, t.1 = some a → 0 < (kidsN l i).length → S a.block
theorem nodes_pick {S : Nat → Prop} {w : World} {A : Option Addr} {l : List Nd} (h : Nodes S w A l) : ∃ Fk : Nat → Option Addr × Nat, ∀ i, i < l.length → PickN S w A l i (Fk i) := by
  have h2 : ∀ i, ∃ t : Option Addr × Nat, i < l.length → PickN S w A l i t := fun i => by
    by_cases hi : i < l.length
    · obtain ⟨b, off, e, hns⟩ := h (by omega)
      obtain ⟨nd, hnd⟩ : ∃ nd, l[i]? = some nd := ⟨_, List.getElem?_eq_getElem hi⟩
      obtain ⟨x0, x1, x2, x3, -, -, -, -, K, cK, x4, hr, hc, -, hs, hks⟩ := hns i nd hnd
      rw [Nat.mul_comm 5 i] at x0 x1 x2 x3 x4
      have e1 : ndN l i = nd := by unfold ndN; rw [hnd]; rfl
      refine ⟨(K, cK), fun _ => ⟨b, off, e, hs, ?_⟩⟩
      rw [kindN, hnd, kidsN_at hnd, e1]
      exact ⟨x0, x1, x2, x3, x4, hr, hc, hks⟩
    · exact ⟨(none, 0), fun e => absurd e hi⟩
  exact Classical.skolem.1 h2
theorem PickN.left {S : Nat → Prop} {w w' : World} {A : Option Addr} {l : List Nd} {i : Nat} {t : Option Addr × Nat} (h : PickN S w A l i t) (hL : ∀ q, S q → w'.heap[q]? = w.heap[q]?) : PickN S w' A l i t := by
  obtain ⟨b, off, e, hs, x0, x1, x2, x3, x4, hr, hc, hk⟩ := h
  have go : ∀ {o : Nat} {v : Value}, w.cell? ⟨b, o, none⟩ = some v → w'.cell? ⟨b, o, none⟩ = some v := fun {o} {v} hv => (World.cell?_of_block (w := w) (a := ⟨b, o, none⟩) (hL b hs)).trans hv
  refine ⟨b, off, e, hs, go x0, go x1, go x2, go x3, go x4, ⟨hr.1, hr.2.1, fun h0 => ?_⟩, hc, hk⟩
  obtain ⟨b2, off2, e2, hc2⟩ := hr.2.2 h0
  exact ⟨b2, off2, e2, fun j hj => (World.cell?_of_block (w := w) (a := ⟨b2, off2 + j, none⟩) (hL b2 (hk _ e2 h0))).trans (hc2 j hj)⟩
/-- The state between two rounds of own. -/
structure OSt (W0 W : World) (lo n b5 BT : Nat) (fv0 : Value) (s : (Nat → Bool) × List Nat) (fv : Value) : Prop where
  x5 : Boxed W b5 27 fv
  marks : W.ownsRow lo 4 1 (.slice (some ⟨BT, 0, none⟩) n n) n (rowB n s.1)
  found : W.ownsRow lo 3 1 fv s.2.length (s.2.map fun x => Value.int .i64 ((x : Nat) : Int))
  left : Left (fun k => k = BT ∨ k = b5 ∨ fv0.ownBlock = some k) W0 W
  fresh : ∀ q, fv.ownBlock = some q → fv0.ownBlock = some q ∨ W0.heap.size ≤ q
  isSome : fv.ownBlock ≠ none
theorem OSt.own {W0 W W' : World} {lo n b5 BT : Nat} {fv0 : Value} {s : (Nat → Bool) × List Nat} {fv : Value} (h : OSt W0 W lo n b5 BT fv0 s fv) {row : Option Nat} (hg : W.grownBy W' row) (hr : ∀ r, row = some r → W0.heap.size ≤ r ∧ ∃ o : Obj, W.heap[r]? = some o ∧ o.isCells = false) : OSt W0 W' lo n b5 BT fv0 s fv := by
  have hr' : ∀ r, row = some r → ∃ o : Obj, W.heap[r]? = some o ∧ o.isCells = false := fun r e => (hr r e).2
  exact ⟨boxed_noncell h.x5 hg hr', row_noncell h.marks hg hr', row_noncell h.found hg hr', Left.own () W W' row h.left hg hr, h.fresh, h.isSome⟩
set_option maxHeartbeats 16000000 in
set_option maxRecDepth 100000 in
theorem own_range (A : Option Addr) (n c b3 b5 b6 BT bB lo : Nat) (kd : Int) (l : List Nd) (Fk : Nat → Option Addr × Nat) (fv0 v14 : Value) (ds : List Deferred) (W0 : World) (Q : Exit → Act → World → Prop) (C : Code)
    (hC : C = cBlock (cSnd (cFst (cSnd (cSnd (cSnd (cSnd (Try.f24.body.getD .skip)))))))) (hl : l.length = n) (hn : n ≤ 1048576) (hm : mayL l = true)
    (h3 : W0.cell? ⟨b3, 0, none⟩ = some (.int .i64 kd)) (x6 : Boxed W0 b6 44 (.slice (some ⟨BT, 0, none⟩) n n)) (h0 : OSt W0 W0 lo n b5 BT fv0 (fun _ => false, []) fv0) (hbB : W0.cell? ⟨bB, 0, none⟩ = some (.slice A n c)) (lo5 : lo ≤ b5) (loT : lo ≤ BT)
    (hD3 : ∀ k, (k = BT ∨ k = b5 ∨ fv0.ownBlock = some k) → k ≠ b3) (hD6 : ∀ k, (k = BT ∨ k = b5 ∨ fv0.ownBlock = some k) → k ≠ b6) (hDB : ∀ k, (k = BT ∨ k = b5 ∨ fv0.ownBlock = some k) → k ≠ bB)
    (hN : ∀ i, i < n → PickN (fun b => b < lo) W0 A l i (Fk i))
    (hdone : ∀ (D : Nat) (W : World) (fv : Value), W0.heap.size ≤ D → OSt W0 W lo n b5 BT fv0 (ownF l kd (dn n n)) fv → W.heap[D]? = some (.deferred (some [])) →
      Q .normal { tmps := #[.slice A n c, .int .i64 kd, undef, .pointer (some ⟨b3, 0, none⟩), .slice none 0 0, .pointer (some ⟨b5, 0, none⟩), .pointer (some ⟨b6, 0, none⟩), undef, undef, undef, undef, .slice A n c, .bool true, .bool false, v14, .slice A n c, .int .i64 (n : Nat), .slice (some ⟨BT, 0, none⟩) n n, .slice A n c, .func (.func 61) #[] #[.pointer (some ⟨bB, 0, none⟩)], undef, undef, undef, undef, undef, undef, undef, undef, undef, undef, undef, undef, undef, undef, undef, undef, undef, undef, undef, undef, undef, undef, undef, undef, undef, undef, undef, undef, undef, undef, undef, undef, undef, undef, undef, undef, undef, undef, undef, undef], defers := { target := .collected D, args := #[] } :: ds } W) :
    C.wpIn Fence.wide 10 Try.prog Q { tmps := #[.slice A n c, .int .i64 kd, undef, .pointer (some ⟨b3, 0, none⟩), .slice none 0 0, .pointer (some ⟨b5, 0, none⟩), .pointer (some ⟨b6, 0, none⟩), undef, undef, undef, undef, .slice A n c, .bool true, .bool false, v14, .slice A n c, .int .i64 (n : Nat), .slice (some ⟨BT, 0, none⟩) n n, .slice A n c, .func (.func 61) #[] #[.pointer (some ⟨bB, 0, none⟩)], undef, undef, undef, undef, undef, undef, undef, undef, undef, undef, undef, undef, undef, undef, undef, undef, undef, undef, undef, undef, undef, undef, undef, undef, undef, undef, undef, undef, undef, undef, undef, undef, undef, undef, undef, undef, undef, undef, undef, undef], defers := ds } W0 := by
  have lt_of : ∀ {p : Addr} {v : Value}, W0.cell? p = some v → p.block < W0.heap.size := fun h => World.block_lt_of_cell? W0 _ h
  have hlo : lo ≤ W0.heap.size := by have := h0.x5.lt; omega
  have hDlo : ∀ k, (k = BT ∨ k = b5 ∨ fv0.ownBlock = some k) → lo ≤ k ∧ k < W0.heap.size := fun k hk => by
    rcases hk with rfl | rfl | e
    · exact ⟨loT, (h0.marks.lt _ rfl).2⟩
    · exact ⟨lo5, h0.x5.lt⟩
    · exact h0.found.lt k e
  have hA : ∀ k, (k = bB ∨ k < lo) → k < W0.heap.size := fun k hk => by
    rcases hk with rfl | hk
    · exact lt_of hbB
    · omega
  have hAD : ∀ k, (k = bB ∨ k < lo) → ¬ (k = BT ∨ k = b5 ∨ fv0.ownBlock = some k) := fun k hk hd => by
    rcases hk with rfl | hk
    · exact hDB _ hd rfl
    · have := (hDlo _ hd).1
      omega
  have hseq := backN_stops 9 (by omega) bB A n c (valN l Fk) (fun k => k = bB ∨ k < lo) W0 (.inl rfl) hA (by omega) hbB (fun W hW i hi => by
    obtain ⟨b, off, e, -, x0, x1, x2, x3, x4, -⟩ := (hN i hi).left (fun q hq => hW q (.inr hq))
    exact ⟨b, off, _, _, _, _, _, e, rfl, x0, x1, x2, x3, x4⟩)
  simp only [Try.f24, Option.getD_some, cFst, cSnd, cBlock] at hC
  subst hC
  refine wpIn_rangeFunc_ownH (gf := 61) (lb := #[.pointer (some ⟨bB, 0, none⟩)]) rfl (by omega) rfl trivial (enters_of Try.func61 (by kernel_rfl) rfl) hseq
    (fun h k => KpA.trans h k) (kpA_b hA) (Below.refl _ _) (fun _ => rfl)
    (fun pre W => ∃ fv, OSt W0 W lo n b5 BT fv0 (ownF l kd pre) fv) (fun _ _ _ => False)
    (fun pre W W' row ⟨fv, h⟩ hg hr => ⟨fv, h.own hg hr⟩) (fun _ _ _ _ _ h _ _ => h) ⟨fv0, h0⟩
    (fun x a' W => ∃ Bx, W0.heap.size ≤ Bx ∧ W.heap[Bx]? = some (.cells #[.int .i64 (kindN l x.1), .string (ndN l x.1).name, .int .i64 (ndN l x.1).lo, .int .i64 (ndN l x.1).hi, .slice (Fk x.1).1 (kidsN l x.1).length (Fk x.1).2] 42 (0, 0)) ∧
      a' = { tmps := #[.slice A n c, .int .i64 kd, undef, .pointer (some ⟨b3, 0, none⟩), .slice none 0 0, .pointer (some ⟨b5, 0, none⟩), .pointer (some ⟨b6, 0, none⟩), .int .i64 ((x.1 : Nat) : Int), .pointer (some ⟨Bx, 0, none⟩), undef, undef, .slice A n c, .bool true, .bool false, v14, .slice A n c, .int .i64 (n : Nat), .slice (some ⟨BT, 0, none⟩) n n, .slice A n c, .func (.func 61) #[] #[.pointer (some ⟨bB, 0, none⟩)], .int .i64 ((x.1 : Nat) : Int), valN l Fk x.1, undef, undef, undef, undef, undef, undef, undef, undef, undef, undef, undef, undef, undef, undef, undef, undef, undef, undef, undef, undef, undef, undef, undef, undef, undef, undef, undef, undef, undef, undef, undef, undef, undef, undef, undef, undef, undef, undef], defers := [] })
    (fun x a' s W W' row h hg hr => by
      obtain ⟨Bx, h1, h2, h3⟩ := h
      have hlt : Bx < W.heap.size := (Array.getElem?_eq_some_iff.1 h2).1
      refine ⟨Bx, h1, (hg.block Bx hlt (fun e => ?_)).trans h2, h3⟩
      obtain ⟨-, o, ho, hc⟩ := hr Bx e.symm
      rw [show W.heap[Bx]? = _ from h2] at ho
      injection ho with ho
      rw [← ho] at hc
      cases hc)
    ?assign ?body ?done ?stop
  case assign =>
    rintro r pre x W K' ⟨fv, h⟩ hK
    have hal : Below W.heap.size W (W.alloc (.cells #[.int .i64 (kindN l x.1), .string (ndN l x.1).name, .int .i64 (ndN l x.1).lo, .int .i64 (ndN l x.1).hi, .slice (Fk x.1).1 (kidsN l x.1).length (Fk x.1).2] 42)) := (Below.refl _ _).alloc (Nat.le_refl _) _
    have HK := Lib.hid (hK _ _ (keeps_below hal) (kpA_left (D := fun _ => False) (Left.of_below hal) (fun k hk => ⟨Nat.lt_of_lt_of_le (hA k hk) h.left.size, fun e => e⟩)) ⟨fv, boxed_later h.x5 hal, Mem.below_row h.marks hal, Mem.below_row h.found hal, h.left.trans (Left.of_below hal), h.fresh, h.isSome⟩ ⟨W.heap.size, h.left.size, heap_alloc_new W _, rfl⟩)
    clear hK h hal
    unfold valN
    gi_wp2
    exact HK.out
  case body =>
    rintro r pre x a' W hr ⟨rc, hrc⟩ ⟨fv, h⟩ ⟨Bx, hBx, hbx, rfl⟩ hlen
    obtain ⟨b, off, eA, hbl, -, -, -, -, -, hrd, hkc, hkl⟩ := (hN x.1 x.2).left (w' := W) (fun q hq => h.left.block q (by omega) (hAD q (.inr hq)))
    obtain ⟨hk2, hks⟩ := kids_nat hm (show x.1 < l.length by rw [hl]; exact x.2)
    have h3W : W.cell? ⟨b3, 0, none⟩ = some (.int .i64 kd) := (World.cell?_of_block (w := W0) (a := ⟨b3, 0, none⟩) (h.left.block b3 (lt_of h3) (fun hd => hD3 _ hd rfl))).trans h3
    have h6W : Boxed W b6 44 (.slice (some ⟨BT, 0, none⟩) n n) := (h.left.block b6 x6.lt (fun hd => hD6 _ hd rfl)).trans x6
    refine wpIn_mono (own_body A (Fk x.1).1 n c b3 b5 b6 BT Bx lo x.1 r (Fk x.1).2 kd (kindN l x.1) (ndN l x.1).lo (ndN l x.1).hi (ndN l x.1).name (kidsN l x.1) fv v14 _ _ (ownF l kd pre).1 (ownF l kd pre).2 W _ rfl x.2 h3W h.x5 h6W h.marks h.found
      (by have := ownF_len l kd _ pre rfl; omega) hbx hrd hkc hks hk2 (fun a e h0 e2 => by have := hkl a e h0; omega) (by have := h.left.size; omega) (hD3 _ (.inl rfl))
      (fun _ W' => ownPostG W0.heap.size (KpA fun k => k = bB ∨ k < lo) (fun pre W => ∃ fv, OSt W0 W lo n b5 BT fv0 (ownF l kd pre) fv) (fun _ _ _ => False) (pre ++ [x]) W .normal { tmps := #[], defers := [] } W')
      (fun a W' fv' y5 hT' hF' hL' ho' hso' => ?_)) ?_
    · have hD' : ∀ q, (q = BT ∨ q = b5 ∨ fv.ownBlock = some q) → (q = BT ∨ q = b5 ∨ fv0.ownBlock = some q) ∨ W0.heap.size ≤ q := fun q hq => by
        rcases hq with e | e | e
        · exact .inl (.inl e)
        · exact .inl (.inr (.inl e))
        · rcases h.fresh q e with e2 | e2
          · exact .inl (.inr (.inr e2))
          · exact .inr e2
      have hsz := h.left.size
      refine ⟨⟨hL'.size, fun k o hB hk hc => ?_⟩, fun k hk => hL'.block k (by have := hA k hk; omega) (fun hd => (hD' k hd).elim (hAD k hk) (fun h9 => by have := hA k hk; omega)), fv', y5, ?_, ?_, h.left.trans' hL' hD', fun q e => ?_, hso'.elim (fun e => e ▸ h.isSome) (fun e => e)⟩
      · refine (hL'.block k (Array.getElem?_eq_some_iff.1 hk).1 (fun hd => ?_)).trans hk
        rcases hd with e | e | e
        · have := (hDlo k (.inl e)).2; omega
        · have := (hDlo k (.inr (.inl e))).2; omega
        · rcases h.found.2 with ⟨e1, -⟩ | ⟨g1, c1, cur1, e1, -, hq1, -⟩
          · rw [e1] at e; cases e
          · rw [e1] at e
            have e : some g1 = some k := e
            injection e with e
            rw [e, hk] at hq1
            injection hq1 with hq1
            rw [hq1] at hc
            cases hc
      · rw [ownF_snoc]
        exact hT'
      · rw [ownF_snoc]
        exact hF'
      · rcases ho' q e with e2 | e2
        · exact h.fresh q e2
        · exact .inr (by omega)
    · intro e a W' hp
      cases e with
      | normal => exact hp
      | ret => exact hp.elim
      | exit id => exact hp.elim
      | goto t => exact hp.elim
      | panic ch => exact hp.elim
      | outgrown => exact hp.elim
  case done =>
    rintro D ys W hD rfl ⟨fv, h⟩ hK
    exact hdone D W fv hD h hK
  case stop =>
    rintro D c pre W _ _ h _
    exact h.elim
end Go.Proofs.Ytcpmcgbjmncalaa.Paths

namespace Go.Proofs.Ytcpmcgbjmncalaa.Paths
open Go.RowKit Go.Shelf Go.Proofs.Ytcpmcgbjmncalaa.Ints Go.Proofs.Ytcpmcgbjmncalaa.Mem Go.Proofs.Ytcpmcgbjmncalaa.Src Go.Proofs.Ytcpmcgbjmncalaa.Tree Go.Proofs.Ytcpmcgbjmncalaa.BitsWalks Go.Proofs.Ytcpmcgbjmncalaa.RdW Go.Proofs.Ytcpmcgbjmncalaa.Words Go.Proofs.Ytcpmcgbjmncalaa.Round

attribute [local go_sem] Oper.semAt_some wide_fn wide_depth

theorem setCells_other {g k : Nat} (hk : k ≠ g) : ∀ (vs : List Value) (o : Nat) (w : World), (w.setCells g o vs).heap[k]? = w.heap[k]?
  | [], _, _ => rfl
  | v :: r, o, w => (setCells_other hk r (o + 1) _).trans (Below.heap_setCell w ⟨g, o, none⟩ v k hk)
theorem setCells_below {B g : Nat} {a : World} (hg : B ≤ g) : ∀ (vs : List Value) (o : Nat) (w : World), Below B a w → Below B a (w.setCells g o vs)
  | [], _, _, h => h
  | v :: r, o, _, h => setCells_below hg r (o + 1) _ (h.setCell (p := ⟨g, o, none⟩) hg v)
set_option maxHeartbeats 16000000 in
set_option maxRecDepth 100000 in
theorem landOwn (A : Option Addr) (n c : Nat) (l : List Nd) (kd : Int) (w : World) (hl : l.length = n) (hn : n ≤ 1048576) (h : Nodes Tree.Any w A l) :
    Calls Try.prog 24 #[.slice A n c, .int .i64 kd] w (GotIdxs w (placesR l kd)) := by
  by_cases hreg : regL l = true
  rotate_left
  · have hr : regL l = false := Bool.eq_false_iff.2 hreg
    have HP := Lib.hid (show placesR l kd = [] by unfold placesR; rw [hr]; rfl)
    have hal : Below w.heap.size w (w.alloc (.cells #[.int .i64 kd] 3)) := (Below.refl _ _).alloc (Nat.le_refl _) _
    have HREG := Lib.hid (landReg A n c l _ hl hn (h.below hal))
    rw [hr] at HREG
    have HB := Lib.hid hal
    clear hreg hr h hal
    refine calls_of (n := 10) ?_
    refine callsIn_of_wp_marks Try.func24 rfl trivial ?_ rfl
    simp only [Try.ntmps24, List.size_toArray, List.length_cons, List.length_nil, Nat.reduceAdd, Nat.reduceSub, Array.replicate_succ, Array.replicate_zero, List.push_toArray, List.append_toArray, List.nil_append, List.cons_append]
    gi_wp2_with fail
    refine (callsIn_wide.2 HREG.out).mono ?_
    rintro e w1 ⟨rfl, hB1⟩
    gi_wp2_with fail
    refine ⟨_, results_tmp rfl _ _ _, ?_⟩
    unfold GotIdxs
    rw [HP.out]
    exact ⟨none, 0, rfl, Rd.nil _ _ _, Nat.le_refl _, by decide, HB.out.trans (hB1.mono HB.out.size), fun a e => by cases e⟩
  have hm : mayL l = true := by have h9 := hreg; unfold regL at h9; rw [Bool.and_eq_true] at h9; exact h9.1
  have q63 : maxLen = 9223372036854775807 := rfl
  obtain ⟨i0, hi, hz0, hz1, hz2⟩ := info_parts infoBl
  have b1 : i0.bytes * n ≤ 281474976710656 := by rw [hz2]; omega
  have b3 : n ≤ maxLen := by omega
  have hal : Below w.heap.size w (w.alloc (.cells #[.int .i64 kd] 3)) := (Below.refl _ _).alloc (Nat.le_refl _) _
  have hx0 := Blk.new w #[.int .i64 kd] 3 _ rfl
  obtain ⟨w1, hw1⟩ : ∃ w1, w.alloc (.cells #[.int .i64 kd] 3) = w1 := ⟨_, rfl⟩
  have hs1 : w1.heap.size = w.heap.size + 1 := by rw [← hw1]; simp
  rw [hw1] at hal hx0
  have HREG := Lib.hid (landReg A n c l w1 hl hn (h.below hal))
  rw [hreg] at HREG
  have HX0 := Lib.hid hx0
  have HB1 := Lib.hid hal
  have HN := Lib.hid h
  have HRG := Lib.hid hreg
  clear h hal hx0 hreg
  refine calls_of (n := 10) ?_
  refine callsIn_of_wp_marks Try.func24 rfl trivial ?_ rfl
  simp only [Try.ntmps24, List.size_toArray, List.length_cons, List.length_nil, Nat.reduceAdd, Nat.reduceSub, Array.replicate_succ, Array.replicate_zero, List.push_toArray, List.append_toArray, List.nil_append, List.cons_append]
  refine wpIn_wide.2 ?_
  go_wp2_with fail
  refine HREG.out.mono ?_
  rintro e w2 ⟨rfl, hB2⟩
  have HBL2 := Lib.hid (HB1.out.trans (hB2.mono HB1.out.size))
  have HX2 := Lib.hid (HX0.out.later hB2)
  have hs2 := hB2.size
  clear hB2
  -- the list, the marks
  have h23 : Below w2.heap.size w2 (w2.alloc (.cells #[] 3)) := (Below.refl _ _).alloc (Nat.le_refl _) _
  have hf3 := heap_alloc_new w2 (.cells #[] 3)
  obtain ⟨w3, hw3⟩ : ∃ w3, w2.alloc (.cells #[] 3) = w3 := ⟨_, rfl⟩
  have hs3 : w3.heap.size = w2.heap.size + 1 := by rw [← hw3]; simp
  rw [hw3] at h23 hf3
  have h34 : Below w3.heap.size w3 (w3.alloc (.cells #[.slice (some ⟨w2.heap.size, 0, none⟩) 0 0] 27)) := (Below.refl _ _).alloc (Nat.le_refl _) _
  have hx5 := heap_alloc_new w3 (.cells #[.slice (some ⟨w2.heap.size, 0, none⟩) 0 0] 27)
  obtain ⟨w4, hw4⟩ : ∃ w4, w3.alloc (.cells #[.slice (some ⟨w2.heap.size, 0, none⟩) 0 0] 27) = w4 := ⟨_, rfl⟩
  have hs4 : w4.heap.size = w3.heap.size + 1 := by rw [← hw4]; simp
  rw [hw4] at h34 hx5
  have hf4 := (h34.block w2.heap.size (by omega)).trans hf3
  have HBL4 := Lib.hid (HBL2.out.trans ((h23.trans (h34.mono h23.size)).mono HBL2.out.size))
  have HX4 := Lib.hid ((HX2.out.later h23).later h34)
  have HF4 := Lib.hid hf4
  have HX5 := Lib.hid hx5
  have HS4 := Lib.hid (And.intro hs3 hs4)
  clear h23 h34 hf3 hf4 hx5
  go_wp2_with (at_make; refine wpList_make_full _ rfl (.tmp 16) (.tmp 16) 44 rfl w.heap.size 4 i0 (.bool false) 1 Try.underlying44 hi hz0 hz1 .i64 .i64 _ _ n rfl rfl rfl rfl b1 b3 HBL4.out.size ?_; intro w5 hmade hgr5; rw [made_bools] at hmade)
  have hb45 : Below w4.heap.size w4 w5 := ⟨hgr5.os, hgr5.tape, hgr5.output, hgr5.size, fun k hk => hgr5.block k hk (by simp)⟩
  have e4 : w4.heap.size = w2.heap.size + 1 + 1 := by omega
  rw [e4] at hmade
  have hBTl : w2.heap.size + 1 + 1 < w5.heap.size := (hmade.lt _ rfl).2
  have h56 : Below w5.heap.size w5 (w5.alloc (.cells #[.slice (some ⟨w2.heap.size + 1 + 1, 0, none⟩) n n] 44)) := (Below.refl _ _).alloc (Nat.le_refl _) _
  have hx6 := heap_alloc_new w5 (.cells #[.slice (some ⟨w2.heap.size + 1 + 1, 0, none⟩) n n] 44)
  obtain ⟨w6, hw6⟩ : ∃ w6, w5.alloc (.cells #[.slice (some ⟨w2.heap.size + 1 + 1, 0, none⟩) n n] 44) = w6 := ⟨_, rfl⟩
  have hs6 : w6.heap.size = w5.heap.size + 1 := by rw [← hw6]; simp
  rw [hw6] at h56 hx6 ⊢
  have h46 : Below w4.heap.size w4 w6 := hb45.trans (h56.mono hb45.size)
  refine (backN _ _ _ _).mono ?_
  rintro e w8 ⟨rfl, rfl⟩
  go_wp2_with fail
  have h67 : Below w6.heap.size w6 (w6.alloc (.cells #[.slice A n c] 22)) := (Below.refl _ _).alloc (Nat.le_refl _) _
  have hxB := Blk.new w6 #[.slice A n c] 22 _ rfl
  obtain ⟨w7, hw7⟩ : ∃ w7, w6.alloc (.cells #[.slice A n c] 22) = w7 := ⟨_, rfl⟩
  rw [hw7] at h67 hxB ⊢
  have hs7 : w7.heap.size = w6.heap.size + 1 := by rw [← hw7]; simp
  rw [hs6] at hxB
  have h47 : Below w4.heap.size w4 w7 := h46.trans (h67.mono h46.size)
  have hbw7 : Below w.heap.size w w7 := HBL4.out.trans (h47.mono HBL4.out.size)
  have hsz2 := HBL2.out.size
  have hNS : Nodes (fun b => b < w.heap.size) w A l := HN.out.mono (fun b hb _ => hb)
  obtain ⟨Fk, hFk⟩ := nodes_pick hNS
  have hF7 : w7.heap[w2.heap.size]? = some (.cells #[] 3 (0, 0)) := (h47.block w2.heap.size (by omega)).trans HF4.out
  have hx57 : Boxed w7 (w2.heap.size + 1) 27 (.slice (some ⟨w2.heap.size, 0, none⟩) 0 0) := by
    have := HX5.out
    rw [hs3] at this
    exact (h47.block (w2.heap.size + 1) (by omega)).trans this
  have hx67 : Boxed w7 w5.heap.size 44 (.slice (some ⟨w2.heap.size + 1 + 1, 0, none⟩) n n) := (h67.block w5.heap.size (by omega)).trans hx6
  have hrow7 : w7.ownsRow w.heap.size 4 1 (.slice (some ⟨w2.heap.size + 1 + 1, 0, none⟩) n n) n (rowB n fun _ => false) := by
    have e : rowB n (fun _ => false) = List.replicate n (.bool false) := by
      unfold rowB
      rw [List.map_const', List.length_range]
    rw [e]
    exact Mem.below_row (Mem.below_row hmade h56) h67
  have hfd7 : w7.ownsRow w.heap.size 3 1 (.slice (some ⟨w2.heap.size, 0, none⟩) 0 0) 0 [] := ⟨rfl, .inr ⟨w2.heap.size, 0, #[], rfl, hsz2, hF7, Nat.le_refl _, by decide, rfl, rfl⟩⟩
  have HBW7 := Lib.hid hbw7
  refine (wpIn_wide (n := 10)).1 ?_
  refine own_range A n c w.heap.size (w2.heap.size + 1) w5.heap.size (w2.heap.size + 1 + 1) (w5.heap.size + 1) w.heap.size kd l Fk (.slice (some ⟨w2.heap.size, 0, none⟩) 0 0) _ _ w7 _ _ rfl hl hn hm ((HX4.out.later h47).cell 0 rfl) hx67
    ⟨hx57, hrow7, hfd7, Left.refl _ _, fun q e => .inl e, fun e => by cases e⟩ (hxB.cell 0 rfl) (by omega) (by omega) (fun k hk => ?_) (fun k hk => ?_) (fun k hk => ?_) (fun i hi => (hFk i (by omega)).left (fun q hq => hbw7.block q hq)) ?_
  · rcases hk with rfl | rfl | e
    · omega
    · omega
    · injection e with e; show k ≠ w.heap.size; have e : w2.heap.size = k := e; omega
  · rcases hk with rfl | rfl | e
    · omega
    · omega
    · injection e with e; show k ≠ w5.heap.size; have e : w2.heap.size = k := e; omega
  · rcases hk with rfl | rfl | e
    · omega
    · omega
    · injection e with e; show k ≠ w5.heap.size + 1; have e : w2.heap.size = k := e; omega
  · intro D W fv hD hO hK
    have hDlo : ∀ k, (k = w2.heap.size + 1 + 1 ∨ k = w2.heap.size + 1 ∨ (Value.slice (some ⟨w2.heap.size, 0, none⟩) 0 0).ownBlock = some k) → w.heap.size ≤ k := fun k hk => by
      rcases hk with rfl | rfl | e
      · omega
      · omega
      · injection e with e; have e : w2.heap.size = k := e; omega
    have hbe : Below w.heap.size w W := hbw7.trans (hO.left.below hDlo hbw7.size)
    obtain ⟨fd, hfd⟩ : ∃ fd, (ownF l kd (dn n n)).2 = fd := ⟨_, rfl⟩
    have hFO := hO.found
    rw [hfd] at hFO
    have HFR := Lib.hid (show fd.reverse = placesR l kd by rw [← hfd, ← hl]; exact ownF_all HRG.out kd)
    have hfl : fd.length ≤ n := by rw [← hfd]; have := ownF_len l kd _ (dn n n) rfl; rw [dn_len (Nat.le_refl _)] at this; exact this
    have hfi : ∀ q ∈ fd, q < n := fun q hq => by
      have h1 : q ∈ placesR l kd := by rw [← HFR.out]; exact List.mem_reverse.2 hq
      unfold placesR at h1
      rw [if_pos HRG.out] at h1
      unfold placesL at h1
      have := List.mem_range.1 (List.mem_filter.1 h1).1
      omega
    obtain ⟨g, cap, hcm, rfl⟩ : ∃ g cap, (fd.length ≤ cap ∧ cap ≤ maxLen) ∧ fv = .slice (some ⟨g, 0, none⟩) fd.length cap := by
      rcases hFO.2 with ⟨e1, -⟩ | ⟨g1, c1, cur1, e1, -, -, h8, h9, -⟩
      · exact absurd (by rw [e1]; rfl) hO.isSome
      · exact ⟨g1, c1, ⟨h8, h9⟩, e1⟩
    have hg := hFO.lt _ rfl
    have hgD : D ≠ g := fun e => by
      rcases hFO.2 with ⟨e1, -⟩ | ⟨g1, c1, cur1, e1, -, hq1, -⟩
      · cases e1
      · injection e1 with e1
        injection e1 with e1
        injection e1 with e1
        rw [← e1, ← e, hK] at hq1
        cases hq1
    have hg5 := boxed_off hO.x5 hFO (by decide)
    have hzl : (fd.map fun x => ((x : Nat) : Int)).length = fd.length := List.length_map ..
    have hcz : ∀ j, j < (fd.map fun x => ((x : Nat) : Int)).length → W.cell? ⟨g, 0 + j, none⟩ = some (.int .i64 ((fd.map fun x => ((x : Nat) : Int)).getD j 0)) := fun j hj => by
      rw [hzl] at hj
      have := hFO.cells (g := g) rfl j (.int .i64 ((fd[j] : Nat) : Int)) (by rw [List.getElem?_map, List.getElem?_eq_getElem hj]; rfl)
      rw [Addr.add_lit] at this
      rw [this, List.getD_eq_getElem?_getD, List.getElem?_map, List.getElem?_eq_getElem hj]
      rfl
    have hrev := Try.slices_Reverse_int_cells g 0 fd.length cap (fd.map fun x => ((x : Nat) : Int)) W (by rw [hzl]; exact Nat.le_refl _) (by omega) hcz (fun j _ => by rw [Nat.zero_add]; exact own_fz hFO j)
    rw [List.take_of_length_le (by rw [hzl]; exact Nat.le_refl _), ← List.map_reverse, HFR.out, List.map_map] at hrev
    have c5 := hO.x5.cell
    obtain ⟨ys, hys⟩ : ∃ ys, (placesR l kd).map (Value.int .i64 ∘ fun x => ((x : Nat) : Int)) = ys := ⟨_, rfl⟩
    have hyl : ys.length = fd.length := by rw [← hys, List.length_map, ← HFR.out, List.length_reverse]
    have hfin := fun (q : Nat) => show ((W.drewN q).setCells g 0 ys).cell? ⟨w2.heap.size + 1, 0, none⟩ = some (.slice (some ⟨g, 0, none⟩) fd.length cap) from by
      rw [World.cell?_setCells_out g ys 0 _ _ (fun e _ => absurd e.symm hg5)]
      exact c5
    have HEND := Lib.hid (fun (q : Nat) => show ((W.drewN q).setCells g 0 ys).heap[D]? = some (.deferred (some [])) ∧ GotIdxs w (placesR l kd) (.returned (.slice (some ⟨g, 0, none⟩) fd.length cap)) (((W.drewN q).setCells g 0 ys).putObj D (.deferred none)) from by
      have hd1 : ((W.drewN q).setCells g 0 ys).heap[D]? = some (.deferred (some [])) := (setCells_other hgD ys 0 (W.drewN q)).trans hK
      refine ⟨hd1, ?_⟩
      unfold GotIdxs
      have hpl : (placesR l kd).length = fd.length := by rw [← HFR.out, List.length_reverse]
      rw [hpl]
      have hbs : Below w.heap.size w ((W.drewN q).setCells g 0 ys) := setCells_below hg.1 ys 0 _ (Mem.below_drewN hbe q)
      refine ⟨some ⟨g, 0, none⟩, cap, rfl, ⟨by rw [List.length_map, hpl], fun j hj => ?_, fun _ => ⟨g, 0, rfl, fun j hj => ?_⟩⟩, hcm.1, hcm.2, hbs.grown (grownBy_putObj' _ D (.deferred none)) (by have := hbs.size; omega) (fun k e => by injection e with e; omega), fun a e => by injection e with e; rw [← e]; exact hg.1⟩
      · rw [List.getElem?_map]
        obtain ⟨q2, hq2⟩ : ∃ q2, (placesR l kd)[j]? = some q2 := ⟨_, List.getElem?_eq_getElem (by omega)⟩
        have hm2 : q2 ∈ fd := by
          have := List.mem_of_getElem? hq2
          rw [← HFR.out] at this
          exact List.mem_reverse.1 this
        have := hfi q2 hm2
        rw [hq2]
        simp [Lit.wf, IntKind.min, IntKind.max, IntKind.signed, IntKind.bits]
        omega
      · have hne : (((W.drewN q).setCells g 0 ys).putObj D (.deferred none)).heap[g]? = ((W.drewN q).setCells g 0 ys).heap[g]? := World.putObj_heap_other (fun e => hgD e.symm)
        rw [World.cell?_of_block (w := (W.drewN q).setCells g 0 ys) (a := ⟨g, 0 + j, none⟩) hne]
        rw [World.cell?_setCells_in g ys 0 (W.drewN q) (fun j2 hj2 => by
          have := hcz j2 (by rw [hzl]; omega)
          show (W.cell? ⟨g, 0 + j2, none⟩).isSome = true
          rw [this]
          rfl) j (by omega)]
        have h7 : ys[j]? = some (.int .i64 (((placesR l kd).map fun i => ((i : Nat) : Int))[j]?.getD 0)) := by
          rw [← hys, List.getElem?_map, List.getElem?_map, List.getElem?_eq_getElem (show j < (placesR l kd).length by omega)]
          rfl
        rw [List.getElem?_eq_getElem (by omega)] at h7
        exact h7)
    have hys2 : (placesR l kd).map (Value.int .i64 ∘ fun x => ((x : Nat) : Int)) = ys := hys
    have HRV := Lib.hid hrev
    have HFIN := Lib.hid hfin
    clear hO hK hbe hFO hg hgD hg5 hcz hrev hfin hfi hDlo hfd hys hyl hzl hcm
    rw [hys2] at HRV
    go_wp2_with fail
    refine HRV.out.mono ?_
    rintro e w9 ⟨rfl, q, rfl⟩
    have c9 := HFIN.out q
    go_wp2_with fail
    refine ⟨by simp, .inl ⟨_, _, rfl, run_takeDeferred (P := Try.prog) (HEND.out q).1, ?_⟩⟩
    refine ⟨_, results_tmp rfl _ _ _, ?_⟩
    exact (HEND.out q).2
theorem landTests (A : Option Addr) (n c : Nat) (l : List Nd) (w : World) (hl : l.length = n) (hn : n ≤ 1048576) (h : Nodes Tree.Any w A l) :
    Calls Try.prog 11 #[.slice A n c] w (GotIdxs w (placesR l 19)) := by
  have HP := Lib.hid (landOwn A n c l 19 w hl hn h)
  unfold GotIdxs at HP ⊢
  obtain ⟨xs, hxs⟩ : ∃ xs, placesR l 19 = xs := ⟨_, rfl⟩
  rw [hxs] at HP ⊢
  clear h hxs
  go_enter Try.func11, Try.ntmps11
  go_wp2_with (go_at_call 24; refine HP.out.mono ?_; rintro e w1 ⟨Ao, co, rfl, h1, h2, h3, h4, h5⟩)
  go_ret
  exact ⟨Ao, co, rfl, h1, h2, h3, h4, h5⟩
theorem landSteps (A : Option Addr) (n c : Nat) (l : List Nd) (w : World) (hl : l.length = n) (hn : n ≤ 1048576) (h : Nodes Tree.Any w A l) :
    Calls Try.prog 13 #[.slice A n c] w (GotIdxs w (placesR l 18)) := by
  have HP := Lib.hid (landOwn A n c l 18 w hl hn h)
  unfold GotIdxs at HP ⊢
  obtain ⟨xs, hxs⟩ : ∃ xs, placesR l 18 = xs := ⟨_, rfl⟩
  rw [hxs] at HP ⊢
  clear h hxs
  go_enter Try.func13, Try.ntmps13
  go_wp2_with (go_at_call 24; refine HP.out.mono ?_; rintro e w1 ⟨Ao, co, rfl, h1, h2, h3, h4, h5⟩)
  go_ret
  exact ⟨Ao, co, rfl, h1, h2, h3, h4, h5⟩
end Go.Proofs.Ytcpmcgbjmncalaa.Paths
