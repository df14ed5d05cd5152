/-
  The landed stay: two rounds over the edges within a point (stage 14). By an AI agent.
  Sets of points as words: what the landed rounds reckon, bit by bit (stage 14). By an AI agent.
-/
import Derived.Test.YtdbgaccnejffpaaGreatDoorGSatDual1
import Derived.Test.YtdbgaccnejffpaaGreatDoorGSatDual28
import Derived.LoopNIn
import Derived.Shelf.Abstract
namespace Go.Proofs.YtdbgaccnejffpaaGreatDoor.Paths
open Go.RowKit Go.Shelf Go.Proofs.YtdbgaccnejffpaaGreatDoor.Ints Go.Proofs.YtdbgaccnejffpaaGreatDoor.Mem Go.Proofs.YtdbgaccnejffpaaGreatDoor.Src Go.Proofs.YtdbgaccnejffpaaGreatDoor.Tree Go.Proofs.YtdbgaccnejffpaaGreatDoor.BitsWalks Go.Proofs.YtdbgaccnejffpaaGreatDoor.RdW Go.Proofs.YtdbgaccnejffpaaGreatDoor.Words Go.Proofs.YtdbgaccnejffpaaGreatDoor.Round
attribute [local go_sem] Oper.semAt_some
@[local go_sem] theorem wide_fn (f : FuncId) : Fence.wide.fn f = True := rfl
@[local go_sem] theorem wide_depth : Fence.wide.depth = none := rfl
def okB (xs : List Nat) (t : Int) : Bool := decide (t = -1) || hasI xs t
def stepE (ok : Int → Bool) (e : Ed) (g : Nat → Nat) : Nat → Nat := if ok e.2.2 = true then updS g e.1 (g e.1 ||| g e.2.1) else g
def stayG (ok : Int → Bool) (st : List Ed) (g : Nat → Nat) : Nat → Nat := st.foldr (stepE ok) g
def edAt (st : List Ed) (i : Nat) : Ed := st[i]?.getD (0, 0, -1)
def runG (ok : Int → Bool) (st : List Ed) (is : List (Ix st.length)) (g : Nat → Nat) : Nat → Nat := is.foldl (fun g i => stepE ok (edAt st i.1) g) g
theorem runG_snoc (ok : Int → Bool) (st : List Ed) (is : List (Ix st.length)) (i : Ix st.length) (g : Nat → Nat) : runG ok st (is ++ [i]) g = stepE ok (edAt st i.1) (runG ok st is g) := by unfold runG; rw [List.foldl_append]; rfl
theorem runG_dn (ok : Int → Bool) (st : List Ed) (g : Nat → Nat) : ∀ k, k ≤ st.length → runG ok st (dn st.length k) g = stayG ok (st.drop (st.length - k)) g := by
 intro k
 induction k with
 | zero =>
  intro _
  rw [Nat.sub_zero, List.drop_length]
  rfl
 | succ k ih =>
  intro hk
  have h : st.length - 1 - k < st.length := by omega
  rw [dn_succ h, runG_snoc, ih (by omega), show st.length - (k + 1) = st.length - 1 - k by omega, List.drop_eq_getElem_cons h]
  have e : edAt st (st.length - 1 - k) = st[st.length - 1 - k] := by unfold edAt; rw [List.getElem?_eq_getElem h]; rfl
  show stepE ok (edAt st (st.length - 1 - k)) _ = stepE ok st[st.length - 1 - k] _
  rw [e, show st.length - 1 - k + 1 = st.length - k by omega]
  rfl
theorem runG_all (ok : Int → Bool) (st : List Ed) (g : Nat → Nat) : runG ok st (dn st.length st.length) g = stayG ok st g := by
 rw [runG_dn ok st g _ (Nat.le_refl _), Nat.sub_self, List.drop_zero]
theorem Left.own {β : Type} {D : Nat → Prop} {W0 : World} : OwnFrom W0.heap.size (fun (_ : β) W => Left D W0 W) := fun _ W W' row h hg hr =>
 ⟨hg.os.trans h.os, hg.tape.trans h.tape, hg.output.trans h.output, Nat.le_trans h.size hg.size, fun q hq hn => (hg.block q (by have := h.size; omega) (fun e => by have := (hr q e.symm).1; omega)).trans (h.block q hq hn)⟩
theorem Sets.own {β : Type} {lo B : Nat} {R : Nat → Nat} {np wn : Nat} {W0 : World} (f : β → Nat → Nat) (hB : B < W0.heap.size) (hR : ∀ i, i < np → R i < W0.heap.size) : OwnFrom W0.heap.size (fun (s : β) W => Sets W lo B R np wn (f s)) := fun _ W W' row h hg hr =>
 h.kept (hg.block B h.lt.1.2 (fun e => by have := (hr B e.symm).1; omega)) (fun i hi => hg.block _ (h.lt.2 i hi).2 (fun e => by have := (hr _ e.symm).1; have := hR i hi; omega))
theorem keeps_left {D : Nat → Prop} {B : Nat} {W W' : World} (h : Left D W W') (hd : ∀ q, D q → q < B) : KeepsFrom B W W' := ⟨h.size, fun k _ hB hk _ => (h.block k (Array.getElem?_eq_some_iff.1 hk).1 (fun hq => by have := hd k hq; omega)).trans hk⟩
theorem keeps_below {B : Nat} {W W' : World} (h : Below W.heap.size W W') : KeepsFrom B W W' := ⟨h.size, fun k _ _ hk _ => (h.block k (Array.getElem?_eq_some_iff.1 hk).1).trans hk⟩
theorem kpA_left {A D : Nat → Prop} {W W' : World} (h : Left D W W') (ha : ∀ q, A q → q < W.heap.size ∧ ¬ D q) : KpA A W W' := fun q hq => h.block q (ha q hq).1 (ha q hq).2
theorem okB_some {xs : List Nat} {t : Int} (h : t ≠ -1) : okB xs t = hasI xs t := by unfold okB; rw [decide_eq_false h, Bool.false_or]
def cFst : Code → Code
 | .seq a _ => a
 | c => c
def cSnd : Code → Code
 | .seq _ b => b
 | c => c
def cBlock : Code → Code
 | .block _ c => c
 | c => c
def cLoop : Code → Code
 | .loop c => c
 | c => c
def valE (st : List Ed) (i : Nat) : Value := .agg #[.int .i64 ((edAt st i).1 : Nat), .int .i64 ((edAt st i).2.1 : Nat), .int .i64 (edAt st i).2.2]
def BoxE (W : World) (b : Nat) (e : Ed) : Prop := W.heap[b]? = some (.cells #[.int .i64 (e.1 : Nat), .int .i64 (e.2.1 : Nat), .int .i64 e.2.2] 129 (0, 0))
set_option maxHeartbeats 16000000 in
set_option maxRecDepth 100000 in
theorem stay_range (lo lo2 np B1 q c b4 b5 bB gp sc : Nat) (sA K : Option Addr) (xs : List Nat) (R1 g : Nat → Nat) (st : List Ed) (k8 k37 : Value) (ds : List Deferred) (W0 : World) (Q : Exit → Act → World → Prop) (C : Code) (hC : C = cBlock (cSnd (cBlock (cFst (cSnd (cSnd (cLoop (cBlock (cSnd (cSnd (Tryz.f95.body.getD .skip)))))))))))
  (hsts : W0.ownsRow lo 129 3 (.slice sA st.length sc) st.length (rowEd st)) (hS : Sets W0 lo2 B1 R1 np 1 g) (hv : RdW W0 K q xs)
  (hbB : W0.cell? ⟨bB, 0, none⟩ = some (.slice sA st.length sc)) (h4 : W0.cell? ⟨b4, 0, none⟩ = some (.slice (some ⟨B1, 0, none⟩) np np)) (h5 : W0.cell? ⟨b5, 0, none⟩ = some (.slice K q c))
  (hn4 : ∀ i, i < np → R1 i ≠ b4) (hn5 : ∀ i, i < np → R1 i ≠ b5) (hnB : ∀ i, i < np → R1 i ≠ bB) (hnS : ∀ i, i < np → (Value.slice sA st.length sc).ownBlock ≠ some (R1 i)) (hnK : ∀ a, K = some a → 0 < q → ∀ i, i < np → R1 i ≠ a.block)
  (hE : ∀ e ∈ st, (e.1 < np ∧ e.2.1 < np) ∧ e.2.2 ≤ 9223372036854775807) (_hnp : np ≤ 2000000) (hst : st.length ≤ 100000000)
  (hdone : ∀ (D : Nat) (W : World), W0.heap.size ≤ D → Sets W lo2 B1 R1 np 1 (stayG (okB xs) st g) → Left (InRows R1 np) W0 W → W.heap[D]? = some (.deferred (some [])) →
   Q .normal { tmps := #[.pointer (some ⟨gp, 0, none⟩), .slice (some ⟨B1, 0, none⟩) np np, .slice K q c, undef, .pointer (some ⟨b4, 0, none⟩), .pointer (some ⟨b5, 0, none⟩), undef, undef, k8, .bool true, .pointer (some ⟨gp, 0, none⟩), .pointer (some ⟨gp, 0, none⟩), .pointer (some ⟨gp, 2, none⟩), .slice sA st.length sc, .func (.func 104) #[] #[.pointer (some ⟨bB, 0, none⟩)], undef, undef, undef, undef, undef, undef, undef, undef, undef, undef, undef, undef, undef, undef, undef, undef, undef, undef, undef, undef, undef, undef, k37], defers := { target := .collected D, args := #[] } :: ds } W) :
  C.wpIn Fence.wide 10 Tryz.prog Q { tmps := #[.pointer (some ⟨gp, 0, none⟩), .slice (some ⟨B1, 0, none⟩) np np, .slice K q c, undef, .pointer (some ⟨b4, 0, none⟩), .pointer (some ⟨b5, 0, none⟩), undef, undef, k8, .bool true, .pointer (some ⟨gp, 0, none⟩), .pointer (some ⟨gp, 0, none⟩), .pointer (some ⟨gp, 2, none⟩), .slice sA st.length sc, .func (.func 104) #[] #[.pointer (some ⟨bB, 0, none⟩)], undef, undef, undef, undef, undef, undef, undef, undef, undef, undef, undef, undef, undef, undef, undef, undef, undef, undef, undef, undef, undef, undef, k37], defers := ds } W0 := by
 have lt_of : ∀ {p : Addr} {v : Value}, W0.cell? p = some v → p.block < W0.heap.size := fun h => World.block_lt_of_cell? W0 _ h
 have hA : ∀ k, (k = bB ∨ (Value.slice sA st.length sc).ownBlock = some k) → k < W0.heap.size := fun k hk => by
  rcases hk with rfl | hk
  ·exact lt_of hbB
  ·exact (hsts.lt k hk).2
 have hRl : ∀ i, i < np → R1 i < W0.heap.size := fun i hi => (hS.lt.2 i hi).2
 have hAD : ∀ k, (k = bB ∨ (Value.slice sA st.length sc).ownBlock = some k) → ¬ InRows R1 np k := fun k hk ⟨i, hi, e⟩ => by
  rcases hk with rfl | hk
  ·exact hnB i hi e.symm
  ·exact hnS i hi (e ▸ hk)
 have hseq := backE_stops 9 (by omega) bB sA st.length sc (valE st) (fun k => k = bB ∨ (Value.slice sA st.length sc).ownBlock = some k) W0 (.inl rfl) hA hst hbB (fun W hW i hi => by
  have hr : W.ownsRow lo 129 3 (.slice sA st.length sc) st.length (rowEd st) := own_same' hsts (fun k hk => hW k (.inr hk))
  obtain ⟨A', c', e', -, -, -, hA'⟩ := own_sl3 hr
  obtain ⟨r, rfl⟩ : ∃ r, sA = some ⟨r, 0, none⟩ := by
   injection e' with e1 e2 e3
   rw [e1]
   exact hA' (by omega)
  have hed : st[i]? = some (edAt st i) := by unfold edAt; rw [List.getElem?_eq_getElem hi]; rfl
  obtain ⟨x0, x1, x2⟩ := rowEd_at hed
  have d0 := hr.cells (g := r) rfl _ _ x0
  have d1 := hr.cells (g := r) rfl _ _ x1
  have d2 := hr.cells (g := r) rfl _ _ x2
  rw [Addr.add_lit, Nat.mul_comm 3 i] at d0 d1 d2
  exact ⟨r, 0, _, _, _, rfl, rfl, d0, d1, d2⟩)
 simp only [Tryz.f95, Option.getD_some, cFst, cSnd, cBlock, cLoop] at hC
 subst hC
 refine wpIn_rangeFunc_ownH (gf := 104) (lb := #[.pointer (some ⟨bB, 0, none⟩)]) rfl (by omega) rfl trivial (enters_of Tryz.func104 (by kernel_rfl) rfl) hseq
  (fun h k => KpA.trans h k) (kpA_b hA) (Below.refl _ _) (fun _ => rfl)
  (fun pre W => Sets W lo2 B1 R1 np 1 (runG (okB xs) st pre g) ∧ Left (InRows R1 np) W0 W) (fun _ _ _ => False)
  (OwnFrom.and (Sets.own (fun pre => runG (okB xs) st pre g) (hS.lt.1.2) hRl) Left.own) (fun _ _ _ _ _ h _ _ => h) ⟨hS, Left.refl _ _⟩
  (fun x a' W => ∃ Bx, W0.heap.size ≤ Bx ∧ BoxE W Bx (edAt st x.1) ∧ a' = { tmps := #[.pointer (some ⟨gp, 0, none⟩), .slice (some ⟨B1, 0, none⟩) np np, .slice K q c, undef, .pointer (some ⟨b4, 0, none⟩), .pointer (some ⟨b5, 0, none⟩), undef, .pointer (some ⟨Bx, 0, none⟩), k8, .bool true, .pointer (some ⟨gp, 0, none⟩), .pointer (some ⟨gp, 0, none⟩), .pointer (some ⟨gp, 2, none⟩), .slice sA st.length sc, .func (.func 104) #[] #[.pointer (some ⟨bB, 0, none⟩)], .int .i64 ((x.1 : Nat) : Int), valE st x.1, undef, undef, undef, undef, undef, undef, undef, undef, undef, undef, undef, undef, undef, undef, undef, undef, undef, undef, undef, undef, k37], defers := [] })
  (fun x a' s W W' row h hg hr => by
   obtain ⟨Bx, h1, h2, h3⟩ := h
   have hlt : Bx < W.heap.size := (Array.getElem?_eq_some_iff.1 h2).1
   refine ⟨Bx, h1, (hg.block Bx hlt (fun e => ?_)).trans h2, h3⟩
   obtain ⟨-, o, ho, hc⟩ := hr Bx e.symm
   rw [show W.heap[Bx]? = _ from h2] at ho
   injection ho with ho
   rw [← ho] at hc
   cases hc)
  ?assign ?body ?done ?stop
 case assign =>
  intro l pre x W K' hI hK
  have hal : Below W.heap.size W (W.alloc (.cells #[.int .i64 ((edAt st x.1).1 : Nat), .int .i64 ((edAt st x.1).2.1 : Nat), .int .i64 (edAt st x.1).2.2] 129)) := (Below.refl _ _).alloc (Nat.le_refl _) _
  have HK := Lib.hid (hK _ _ (keeps_below hal) (kpA_left (D := InRows R1 np) (Left.of_below hal) (fun k hk => ⟨Nat.lt_of_lt_of_le (hA k hk) hI.2.size, hAD k hk⟩)) ⟨hI.1.below hal, hI.2.trans (Left.of_below hal)⟩ ⟨W.heap.size, hI.2.size, heap_alloc_new W _, rfl⟩)
  clear hK hI hal
  unfold valE
  gi_wp2
  exact HK.out
 case body =>
  rintro l pre x a' W hl ⟨rc, hrc⟩ ⟨hs, hL⟩ ⟨Bx, hBx, hbx, rfl⟩ hlen
  have hnext : runG (okB xs) st (pre ++ [x]) g = stepE (okB xs) (edAt st x.1) (runG (okB xs) st pre g) := runG_snoc _ _ _ _ _
  have hed : edAt st x.1 ∈ st := by
   have : edAt st x.1 = st[x.1]'x.2 := by unfold edAt; rw [List.getElem?_eq_getElem x.2]; rfl
   rw [this]
   exact List.getElem_mem x.2
  obtain ⟨⟨hu, hv1⟩, ht63⟩ := hE _ hed
  obtain ⟨e, he⟩ : ∃ e, edAt st x.1 = e := ⟨_, rfl⟩
  rw [he] at hnext hbx hu hv1 ht63
  obtain ⟨u, v, t⟩ := e
  obtain ⟨f, hf⟩ : ∃ f, runG (okB xs) st pre g = f := ⟨_, rfl⟩
  rw [hf] at hnext hs
  obtain ⟨vx, hvx⟩ : ∃ vx, valE st x.1 = vx := ⟨_, rfl⟩
  rw [hvx]
  have hu : u < np := hu
  have hv1 : v < np := hv1
  have ht63 : t ≤ 9223372036854775807 := ht63
  have hBl : Bx < W.heap.size := (Array.getElem?_eq_some_iff.1 hbx).1
  have hx : Blk W Bx [.int .i64 (u : Nat), .int .i64 (v : Nat), .int .i64 t] := ⟨hBl, fun k y hy => ⟨by rw [cell_of_row W Bx k _ _ (0, 0) hbx]; simpa using hy, by simp [World.frozen?, show W.heap[Bx]? = _ from hbx]⟩⟩
  have k0 := hx.cell 0 rfl
  have k1 := hx.cell 1 rfl
  have k2 := hx.cell 2 rfl
  have k4 : W.cell? ⟨b4, 0, none⟩ = some (.slice (some ⟨B1, 0, none⟩) np np) := (World.cell?_of_block (w := W0) (a := ⟨b4, 0, none⟩) (hL.block b4 (lt_of h4) (fun ⟨i, hi, e⟩ => hn4 i hi e.symm))).trans h4
  have k5 : W.cell? ⟨b5, 0, none⟩ = some (.slice K q c) := (World.cell?_of_block (w := W0) (a := ⟨b5, 0, none⟩) (hL.block b5 (lt_of h5) (fun ⟨i, hi, e⟩ => hn5 i hi e.symm))).trans h5
  have hvW : RdW W K q xs := ⟨hv.1, hv.2.1, fun h0 => by
   obtain ⟨b, off, e, hc⟩ := hv.2.2 h0
   exact ⟨b, off, e, fun j hj => (World.cell?_of_block (w := W0) (a := ⟨b, off + j, none⟩) (hL.block b (lt_of (hc j hj)) (fun ⟨i, hi, e2⟩ => hnK _ e h0 i hi e2.symm))).trans (hc j hj)⟩⟩
  have m1 := hs.outer hu
  have m2 := hs.outer hv1
  have HADD := Lib.hid (landAdd (R1 u) (R1 v) _ _ W.drew (hs.inner hu) (hs.fz hu 0) (hs.inner hv1) (hs.wd u hu) (hs.wd v hv1))
  have HHAS := Lib.hid (has_ K q c xs W t ht63 hvW)
  have hld : Left (InRows R1 np) W W.drew := Left.of_below (Below.refl _ _).drew
  have hlv := hld.set ⟨R1 u, 0, none⟩ (.int .u64 ((f u ||| f v : Nat) : Int)) ⟨u, hu, rfl⟩
  have HYES := Lib.hid (show okB xs t = true → ownPostG W0.heap.size (KpA fun k => k = bB ∨ (Value.slice sA st.length sc).ownBlock = some k) (fun pre W => Sets W lo2 B1 R1 np 1 (runG (okB xs) st pre g) ∧ Left (InRows R1 np) W0 W) (fun _ _ _ => False) (pre ++ [x]) W .normal { tmps := #[], defers := [] } (W.drew.setCell ⟨R1 u, 0, none⟩ (.int .u64 ((f u ||| f v : Nat) : Int))) from fun hok =>
   ⟨keeps_left hlv (fun k ⟨i, hi, e⟩ => e ▸ hRl i hi), kpA_left hlv (fun k hk => ⟨Nat.lt_of_lt_of_le (hA k hk) hL.size, hAD k hk⟩), by
    show Sets _ lo2 B1 R1 np 1 (runG (okB xs) st (pre ++ [x]) g)
    rw [hnext]
    unfold stepE
    rw [if_pos hok]
    exact (hs.below (Below.refl _ _).drew).set hu _ (or_small (hs.wd u hu) (hs.wd v hv1)), hL.trans hlv⟩)
  have HNO := Lib.hid (show okB xs t = false → ownPostG W0.heap.size (KpA fun k => k = bB ∨ (Value.slice sA st.length sc).ownBlock = some k) (fun pre W => Sets W lo2 B1 R1 np 1 (runG (okB xs) st pre g) ∧ Left (InRows R1 np) W0 W) (fun _ _ _ => False) (pre ++ [x]) W .normal { tmps := #[], defers := [] } W from fun hok =>
   ⟨keeps_left (Left.refl (InRows R1 np) W) (fun k ⟨i, hi, e⟩ => e ▸ hRl i hi), KpA.refl _ _, by
    show Sets _ lo2 B1 R1 np 1 (runG (okB xs) st (pre ++ [x]) g)
    rw [hnext]
    unfold stepE
    rw [if_neg (by rw [hok]; decide)]
    exact hs, hL⟩)
  have hnx : R1 u ≠ Bx := fun e => by have := hRl u hu; omega
  have hno := (hs.off u hu).1
  have hn4u := hn4 u hu
  have HS1 := Lib.hid (show ∀ z : Value, ((W.drew.setCell ⟨R1 u, 0, none⟩ z).cell? ⟨b4, 0, none⟩ = some (.slice (some ⟨B1, 0, none⟩) np np) ∧ (W.drew.setCell ⟨R1 u, 0, none⟩ z).cell? ⟨Bx, 0, none⟩ = some (.int .i64 (u : Nat)) ∧ (W.drew.setCell ⟨R1 u, 0, none⟩ z).cell? ⟨Bx, 1, none⟩ = some (.int .i64 (v : Nat)) ∧ (W.drew.setCell ⟨R1 u, 0, none⟩ z).cell? ⟨B1, u, none⟩ = some (.slice (some ⟨R1 u, 0, none⟩) 1 1) ∧ (W.drew.setCell ⟨R1 u, 0, none⟩ z).cell? ⟨B1, v, none⟩ = some (.slice (some ⟨R1 v, 0, none⟩) 1 1)) from fun z => by
   have go : ∀ (q o : Nat) (y : Value), R1 u ≠ q → W.cell? ⟨q, o, none⟩ = some y → (W.drew.setCell ⟨R1 u, 0, none⟩ z).cell? ⟨q, o, none⟩ = some y := fun q o y hq hy => (World.cell?_of_block (w := W.drew) (a := ⟨q, o, none⟩) (Below.heap_setCell W.drew _ z q (fun e => hq e.symm))).trans hy
   exact ⟨go _ _ _ hn4u k4, go _ _ _ hnx k0, go _ _ _ hnx k1, go _ _ _ hno m1, go _ _ _ hno m2⟩)
  have HS0 := Lib.hid (show W.drew.cell? ⟨b4, 0, none⟩ = some (.slice (some ⟨B1, 0, none⟩) np np) ∧ W.drew.cell? ⟨Bx, 0, none⟩ = some (.int .i64 (u : Nat)) ∧ W.drew.cell? ⟨Bx, 1, none⟩ = some (.int .i64 (v : Nat)) ∧ W.drew.cell? ⟨B1, u, none⟩ = some (.slice (some ⟨R1 u, 0, none⟩) 1 1) ∧ W.drew.cell? ⟨B1, v, none⟩ = some (.slice (some ⟨R1 v, 0, none⟩) 1 1) from ⟨k4, k0, k1, m1, m2⟩)
  have hui : ((u : Nat) : Int) < ((np : Nat) : Int) := by omega
  have hvi : ((v : Nat) : Int) < ((np : Nat) : Int) := by omega
  clear hs hL hnext hed he hf hvx hx hvW m1 m2 hld hlv hnx hno hn4u hbx hrc k1 hu hv1 hdone hseq hsts hS hv hbB h4 h5 hn4 hn5 hnB hnS hnK hE hlen
  refine wpIn_block ?_
  refine wpIn_seq_k ?_
  intro K1 hK1
  dsimp only
  refine region_all (by kernel_rfl) (fun _ _ h => h) ?_
  by_cases hok : okB xs t = true
  ·have HY := Lib.hid (HYES.out hok)
   clear HYES HNO
   by_cases ht : t = -1
   ·subst ht
    clear hok
    go_wp2_with fail
    gi_wp2
    refine region_held (fun V => V.cell? ⟨b4, 0, none⟩ = some (.slice (some ⟨B1, 0, none⟩) np np) ∧ V.cell? ⟨Bx, 0, none⟩ = some (.int .i64 (u : Nat)) ∧ V.cell? ⟨Bx, 1, none⟩ = some (.int .i64 (v : Nat)) ∧ V.cell? ⟨B1, u, none⟩ = some (.slice (some ⟨R1 u, 0, none⟩) 1 1) ∧ V.cell? ⟨B1, v, none⟩ = some (.slice (some ⟨R1 v, 0, none⟩) 1 1)) (by kernel_rfl) (by kernel_rfl) (fun _ _ h => h) HS0.out (fun hHeld => ?_)
    clear k0 k2 k4 k5
    refine tkOp 0 hHeld ?_
    refine tkOp 1 hHeld ?_
    refine tkOp 2 hHeld ?_
    refine tkOp 3 hHeld ?_
    refine tkOp 4 hHeld ?_
    refine tkOp 5 hHeld ?_
    refine tkOp 6 hHeld ?_
    refine tkOp 7 hHeld ?_
    refine tkOp 8 hHeld ?_
    refine tkOp 9 hHeld ?_
    refine tkCall 10 (fun Kt hKt => ?_)
    go_simp
    (go_at_call 100; refine HADD.out.mono ?_; rintro e w2 ⟨rfl, rfl⟩)
    refine hKt.out _ _ ?_ (fun hT => ?_)
    ·(exact HS1.out _)
    clear hKt Kt hHeld
    have hHeld := hT
    clear hT
    try simp only [Act.put, tkA, tkB, tkC]
    refine wpAnyH_done (by kernel_rfl) ?_ _
    clear hHeld
    exact HY.out
   ·have ht' : (t == -1) = false := Bool.eq_false_iff.2 (fun e => ht (beq_iff_eq.1 e))
    rw [okB_some ht] at hok
    rw [hok] at HHAS
    clear ht hok
    go_wp2_with (go_at_call 102; refine HHAS.out.mono ?_; rintro e w2 ⟨rfl, rfl⟩)
    gi_wp2
    refine region_held (fun V => V.cell? ⟨b4, 0, none⟩ = some (.slice (some ⟨B1, 0, none⟩) np np) ∧ V.cell? ⟨Bx, 0, none⟩ = some (.int .i64 (u : Nat)) ∧ V.cell? ⟨Bx, 1, none⟩ = some (.int .i64 (v : Nat)) ∧ V.cell? ⟨B1, u, none⟩ = some (.slice (some ⟨R1 u, 0, none⟩) 1 1) ∧ V.cell? ⟨B1, v, none⟩ = some (.slice (some ⟨R1 v, 0, none⟩) 1 1)) (by kernel_rfl) (by kernel_rfl) (fun _ _ h => h) HS0.out (fun hHeld => ?_)
    clear k0 k2 k4 k5
    refine tkOp 0 hHeld ?_
    refine tkOp 1 hHeld ?_
    refine tkOp 2 hHeld ?_
    refine tkOp 3 hHeld ?_
    refine tkOp 4 hHeld ?_
    refine tkOp 5 hHeld ?_
    refine tkOp 6 hHeld ?_
    refine tkOp 7 hHeld ?_
    refine tkOp 8 hHeld ?_
    refine tkOp 9 hHeld ?_
    refine tkCall 10 (fun Kt hKt => ?_)
    go_simp
    (go_at_call 100; refine HADD.out.mono ?_; rintro e w2 ⟨rfl, rfl⟩)
    refine hKt.out _ _ ?_ (fun hT => ?_)
    ·(exact HS1.out _)
    clear hKt Kt hHeld
    have hHeld := hT
    clear hT
    try simp only [Act.put, tkA, tkB, tkC]
    refine wpAnyH_done (by kernel_rfl) ?_ _
    clear hHeld
    exact HY.out
  ·have hok : okB xs t = false := Bool.eq_false_iff.2 hok
   have HN := Lib.hid (HNO.out hok)
   have ht : t ≠ -1 := fun e => by rw [e] at hok; cases hok
   have ht' : (t == -1) = false := Bool.eq_false_iff.2 (fun e => ht (beq_iff_eq.1 e))
   rw [okB_some ht] at hok
   rw [hok] at HHAS
   clear ht hok HYES HNO
   go_wp2_with (go_at_call 102; refine HHAS.out.mono ?_; rintro e w2 ⟨rfl, rfl⟩)
   gi_wp2
   exact HN.out
 case done =>
  rintro D ys W hD rfl ⟨hs, hL⟩ hK
  rw [runG_all] at hs
  exact hdone D W hD hs hL hK
 case stop =>
  rintro D c pre W _ _ h _
  exact h.elim
set_option maxHeartbeats 16000000 in
set_option maxRecDepth 100000 in
theorem landStay (lo lo2 gp np nt B1 q c : Nat) (K : Option Addr) (xs : List Nat) (R1 g : Nat → Nat) (sv pv : Value) (st sp : List Ed) (w : World) (hG : GMem w lo gp sv pv np nt st sp) (hS : Sets w lo2 B1 R1 np 1 g) (hv : RdW w K q xs)
  (hgl : gp < lo2) (hsl : ∀ q, sv.ownBlock = some q → q < lo2) (hKl : ∀ a, K = some a → 0 < q → a.block < lo2) (hE : ∀ e ∈ st, (e.1 < np ∧ e.2.1 < np) ∧ e.2.2 ≤ 9223372036854775807) (hnp : np ≤ 2000000) (hst : st.length ≤ 100000000) :
  Calls Tryz.prog 95 #[.pointer (some ⟨gp, 0, none⟩), .slice (some ⟨B1, 0, none⟩) np np, .slice K q c] w fun e w' =>
   e = .returned (.tuple #[]) ∧ Sets w' lo2 B1 R1 np 1 (stayG (okB xs) st (stayG (okB xs) st g)) ∧ Left (InRows R1 np) w w' := by
 have hnp' : ((np : Nat) : Int) ≤ 2000000 := by omega
 obtain ⟨sA, sc, e, -, -, -, hsA⟩ := own_sl3 hG.sts
 subst e
 have hRl : ∀ i, i < np → lo2 ≤ R1 i ∧ R1 i < w.heap.size := hS.lt.2
 have hD0 : ∀ k, InRows R1 np k → lo2 ≤ k ∧ k < w.heap.size := fun k ⟨i, hi, e⟩ => e ▸ hRl i hi
 have hgw := hG.blk.1
 have hB1l := hS.lt.1
 have hslw : ∀ k, (Value.slice sA st.length sc).ownBlock = some k → k < w.heap.size := fun k e => (hG.sts.lt k e).2
 -- what a later world holds
 have HW := Lib.hid (show ∀ W, Left (InRows R1 np) w W → W.ownsRow lo 129 3 (.slice sA st.length sc) st.length (rowEd st) ∧ RdW W K q xs ∧ W.cell? ⟨gp, 2, none⟩ = some (.slice sA st.length sc) from fun W hl =>
  ⟨own_same' hG.sts (fun k e => hl.block k (hslw k e) (fun hd => by have := (hD0 k hd).1; have := hsl k e; omega)), ⟨hv.1, hv.2.1, fun h0 => by
   obtain ⟨b, off, e, hc⟩ := hv.2.2 h0
   have hb : b < lo2 := hKl _ e h0
   exact ⟨b, off, e, fun j hj => (World.cell?_of_block (w := w) (a := ⟨b, off + j, none⟩) (hl.block b (World.block_lt_of_cell? w _ (hc j hj)) (fun hd => by have := (hD0 b hd).1; omega))).trans (hc j hj)⟩⟩,
   (World.cell?_of_block (w := w) (a := ⟨gp, 2, none⟩) (hl.block gp hgw (fun hd => by have := (hD0 gp hd).1; omega))).trans (hG.blk.cell 2 rfl)⟩)
 obtain ⟨w2, hw2⟩ : ∃ w2, (w.alloc (.cells #[.slice (some ⟨B1, 0, none⟩) np np] 103)).alloc (.cells #[.slice K q c] 107) = w2 := ⟨_, rfl⟩
 have hsz2 : w2.heap.size = w.heap.size + 2 := by rw [← hw2]; simp
 have hb2 : Below w.heap.size w w2 := by rw [← hw2]; exact ((Below.refl _ w).alloc (Nat.le_refl _) _).alloc (by simp) _
 have h4 : w2.cell? ⟨w.heap.size, 0, none⟩ = some (.slice (some ⟨B1, 0, none⟩) np np) := by rw [← hw2]; exact ((Blk.new w #[.slice (some ⟨B1, 0, none⟩) np np] 103 _ rfl).alloc _).cell 0 rfl
 have h5 : w2.cell? ⟨w.heap.size + 1, 0, none⟩ = some (.slice K q c) := by
  have := (Blk.new (w.alloc (.cells #[.slice (some ⟨B1, 0, none⟩) np np] 103)) #[.slice K q c] 107 _ rfl).cell 0 rfl
  rw [World.size_alloc, hw2] at this
  exact this
 have c2 := (HW.out w2 (Left.of_below hb2)).2.2
 refine calls_of (n := 10) ?_
 refine callsIn_of_wp_marks Tryz.func95 rfl trivial ?_ rfl
 simp only [Tryz.ntmps95, List.size_toArray, List.length_cons, List.length_nil, Nat.reduceAdd, Nat.reduceSub, Array.replicate_succ, Array.replicate_zero, List.push_toArray, List.append_toArray, List.nil_append, List.cons_append]
 gi_wp2
 have HS2 := Lib.hid (hS.below hb2)
 have HL2 := Lib.hid (Left.of_below (D := InRows R1 np) hb2)
 clear hG hv hS hw2
 refine wpIn_loop_rounds 3 ?_
 rw [roundsIn_succ]
 gi_wp2_with fail
 refine (callsIn_wide.2 (backE _ _ _ _)).mono ?_
 rintro e w1 ⟨rfl, rfl⟩
 gi_wp2_with fail
 have hal : Below w2.heap.size w2 (w2.alloc (.cells #[.slice sA st.length sc] 123)) := (Below.refl _ _).alloc (Nat.le_refl _) _
 have hb3 : (w2.alloc (.cells #[.slice sA st.length sc] 123)).cell? ⟨w2.heap.size, 0, none⟩ = some (.slice sA st.length sc) := (Blk.new w2 #[.slice sA st.length sc] 123 _ rfl).cell 0 rfl
 have hl3 := HL2.out.trans (Left.of_below hal)
 obtain ⟨w3, hw3⟩ : ∃ w3, w2.alloc (.cells #[.slice sA st.length sc] 123) = w3 := ⟨_, rfl⟩
 have hsz3 : w3.heap.size = w.heap.size + 3 := by rw [← hw3]; simp [hsz2]
 rw [hw3, hsz2] at hb3
 rw [hw3] at hal hl3
 try rw [hw3]
 have hne : ∀ i, i < np → ∀ k, w.heap.size ≤ k → R1 i ≠ k := fun i hi k hk e => by have := (hRl i hi).2; omega
 refine stay_range lo lo2 np B1 q c w.heap.size (w.heap.size + 1) (w.heap.size + 2) gp sc sA K xs R1 g st _ _ _ w3 _ _ rfl (HW.out w3 hl3).1 (HS2.out.below hal) (HW.out w3 hl3).2.1 hb3 (Mem.below_cell hal h4) (Mem.below_cell hal h5) (fun i hi => hne i hi _ (Nat.le_refl _)) (fun i hi => hne i hi _ (by omega)) (fun i hi => hne i hi _ (by omega))
  (fun i hi e => by have := hsl _ e; have := (hRl i hi).1; omega) (fun a e h0 i hi e2 => by have := hKl a e h0; have := (hRl i hi).1; omega) hE hnp hst ?_
 intro D1 W1 hD1 hs1 hL1 hK1
 have hL1w := hl3.trans hL1
 have hcW := (HW.out W1 hL1w).2.2
 have HS1 := Lib.hid hs1
 have HL1 := Lib.hid hL1
 have HK1 := Lib.hid hK1
 clear hs1 hL1 hK1 c2
 gi_wp2_with fail
 rw [roundsIn_succ]
 gi_wp2_with fail
 refine (callsIn_wide.2 (backE _ _ _ _)).mono ?_
 rintro e w5 ⟨rfl, rfl⟩
 gi_wp2_with fail
 have hal1 : Below W1.heap.size W1 (W1.alloc (.cells #[.slice sA st.length sc] 123)) := (Below.refl _ _).alloc (Nat.le_refl _) _
 have hb5 : (W1.alloc (.cells #[.slice sA st.length sc] 123)).cell? ⟨W1.heap.size, 0, none⟩ = some (.slice sA st.length sc) := (Blk.new W1 #[.slice sA st.length sc] 123 _ rfl).cell 0 rfl
 have hl5 := hL1w.trans (Left.of_below hal1)
 have hk5 : (W1.alloc (.cells #[.slice sA st.length sc] 123)).heap[D1]? = some (.deferred (some [])) := (hal1.block D1 (Array.getElem?_eq_some_iff.1 HK1.out).1).trans HK1.out
 obtain ⟨w4, hw4⟩ : ∃ w4, W1.alloc (.cells #[.slice sA st.length sc] 123) = w4 := ⟨_, rfl⟩
 rw [hw4] at hal1 hb5 hl5 hk5
 try rw [hw4]
 have hw2w : w2.heap.size ≤ w3.heap.size := hal.size
 have h41 : W1.cell? ⟨w.heap.size, 0, none⟩ = some (.slice (some ⟨B1, 0, none⟩) np np) := (World.cell?_of_block (w := w3) (a := ⟨w.heap.size, 0, none⟩) (HL1.out.block w.heap.size (by omega) (fun hd => by have := (hD0 w.heap.size hd).2; omega))).trans (Mem.below_cell hal h4)
 have h51 : W1.cell? ⟨w.heap.size + 1, 0, none⟩ = some (.slice K q c) := (World.cell?_of_block (w := w3) (a := ⟨w.heap.size + 1, 0, none⟩) (HL1.out.block (w.heap.size + 1) (by omega) (fun hd => by have := (hD0 (w.heap.size + 1) hd).2; omega))).trans (Mem.below_cell hal h5)
 have hszW := HL1.out.size
 refine stay_range lo lo2 np B1 q c w.heap.size (w.heap.size + 1) W1.heap.size gp sc sA K xs R1 _ st _ _ _ w4 _ _ rfl (HW.out w4 hl5).1 (HS1.out.below hal1) (HW.out w4 hl5).2.1 hb5 (Mem.below_cell hal1 h41) (Mem.below_cell hal1 h51) (fun i hi => hne i hi _ (Nat.le_refl _)) (fun i hi => hne i hi _ (by omega)) (fun i hi => hne i hi _ (by omega))
  (fun i hi e => by have := hsl _ e; have := (hRl i hi).1; omega) (fun a e h0 i hi e2 => by have := hKl a e h0; have := (hRl i hi).1; omega) hE hnp hst ?_
 intro D2 W2 hD2 hs2 hL2 hK2
 have hd12 : D1 < w4.heap.size := (Array.getElem?_eq_some_iff.1 hk5).1
 have hk6 : W2.heap[D1]? = some (.deferred (some [])) := (hL2.block D1 hd12 (fun hd => by have := (hD0 _ hd).2; omega)).trans hk5
 have HF := Lib.hid (show (Instr.takeDeferred D2).run Tryz.prog W2 = .ok [] (W2.putObj D2 (.deferred none)) from run_takeDeferred hK2)
 have hk7 : (W2.putObj D2 (.deferred none)).heap[D1]? = some (.deferred (some [])) := (World.putObj_heap_other (by omega)).trans hk6
 have HF2 := Lib.hid (run_takeDeferred (P := Tryz.prog) hk7)
 have HLE := Lib.hid (hl5.trans hL2)
 have HSE := Lib.hid hs2
 have HZ := Lib.hid (And.intro (show w.heap.size ≤ D1 by omega) (show w.heap.size ≤ D2 by have := hal1.size; omega))
 clear hs2 hL2 hK2 hk6 hk7 hk5 hcW
 gi_wp2_with fail
 rw [roundsIn_succ]
 gi_wp2_with fail
 refine ⟨by simp, .inl ⟨_, _, rfl, HF.out, ⟨by simp, .inl ⟨_, _, rfl, HF2.out, ?_⟩⟩⟩⟩
 refine ⟨_, results_none rfl _ _ _, rfl, ?_, ?_⟩
 ·have hlt := HSE.out.lt
  exact HSE.out.kept ((World.putObj_heap_other (by have := HZ.out; omega)).trans (World.putObj_heap_other (by have := HZ.out; omega))) (fun i hi => (World.putObj_heap_other (by have := HZ.out; have := (hRl i hi).2; omega)).trans (World.putObj_heap_other (by have := HZ.out; have := (hRl i hi).2; omega)))
 ·have hl := HLE.out
  exact ⟨hl.os, hl.tape, hl.output, by simpa using hl.size, fun k hk hn => (World.putObj_heap_other (by have := HZ.out; omega)).trans ((World.putObj_heap_other (by have := HZ.out; omega)).trans (hl.block k hk hn))⟩
end Go.Proofs.YtdbgaccnejffpaaGreatDoor.Paths

namespace Go.Proofs.YtdbgaccnejffpaaGreatDoor.Paths
open Go.RowKit Go.Proofs.YtdbgaccnejffpaaGreatDoor.Tree Go.Proofs.YtdbgaccnejffpaaGreatDoor.BitsWalks Go.Proofs.YtdbgaccnejffpaaGreatDoor.Words
theorem upd_bit (g : Nat → Nat) (u x p j : Nat) : ((updS g u (g u ||| x)) p).testBit j = true ↔ (g p).testBit j = true ∨ (p = u ∧ x.testBit j = true) := by
 unfold updS
 by_cases e : p = u
 ·subst e
  rw [if_pos rfl, Nat.testBit_or, Bool.or_eq_true]
  exact ⟨fun h => h.imp id (fun h => ⟨rfl, h⟩), fun h => h.imp id (fun h => h.2)⟩
 ·rw [if_neg e]
  exact ⟨.inl, fun h => h.elim id (fun h => absurd h.1 e)⟩
theorem steps_bit (h : Nat → Nat) (p j : Nat) : ∀ (sp : List Ed) (g : Nat → Nat), ((sp.foldl (fun g e => updS g e.1 (g e.1 ||| h e.2.1)) g) p).testBit j = true ↔ (g p).testBit j = true ∨ ∃ e ∈ sp, e.1 = p ∧ (h e.2.1).testBit j = true := by
 intro sp
 induction sp with
 | nil => intro g; simp
 | cons e sp ih =>
  intro g
  rw [List.foldl_cons, ih, upd_bit]
  constructor
  ·rintro ((h1 | ⟨h1, h2⟩) | ⟨e2, h1, h2, h3⟩)
   ·exact .inl h1
   ·exact .inr ⟨e, List.mem_cons_self, h1.symm, h2⟩
   ·exact .inr ⟨e2, List.mem_cons_of_mem _ h1, h2, h3⟩
  ·rintro (h1 | ⟨e2, h1, h2, h3⟩)
   ·exact .inl (.inl h1)
   ·rcases List.mem_cons.1 h1 with rfl | h1
    ·exact .inl (.inr ⟨h2.symm, h3⟩)
    ·exact .inr ⟨e2, h1, h2, h3⟩
theorem stepG_bit (sp : List Ed) (h : Nat → Nat) (p j : Nat) : ((stepG sp h) p).testBit j = true ↔ ∃ e ∈ sp, e.1 = p ∧ (h e.2.1).testBit j = true := by
 unfold stepG
 rw [steps_bit]
 simp
theorem stay_bit (ok : Int → Bool) (g : Nat → Nat) (j : Nat) : ∀ (st : List Ed) (p : Nat), ((stayG ok st g) p).testBit j = true ↔ sw (fun t => ok t = true) st (fun p => (g p).testBit j = true) p := by
 intro st
 induction st with
 | nil => intro p; exact Iff.rfl
 | cons e st ih =>
  intro p
  have e0 : stayG ok (e :: st) g = stepE ok e (stayG ok st g) := rfl
  rw [e0, sw_cons]
  unfold stepE sw1
  by_cases h : ok e.2.2 = true
  ·rw [if_pos h, upd_bit, ih p, ih e.2.1]
   exact ⟨fun h2 => h2.imp id (fun h2 => ⟨h2.1, h, h2.2⟩), fun h2 => h2.imp id (fun h2 => ⟨h2.1, h2.2.2⟩)⟩
  ·rw [if_neg h, ih p]
   exact ⟨.inl, fun h2 => h2.elim id (fun h2 => absurd h2.2.1 h)⟩
def markG (i : Nat) (g : Nat → Nat) : Nat → Nat := updS g 1 (g 1 ||| 2 ^ i)
def pointG (st sp : List Ed) (vs : Nat → List Nat) (i : Nat) (h : Nat → Nat) : Nat → Nat := stayG (okB (vs i)) st (stayG (okB (vs i)) st (markG i (stepG sp h)))
def goalsF (st sp : List Ed) (vs : Nat → List Nat) {nv : Nat} (is : List (Ix nv)) : Nat → Nat := is.foldl (fun h i => pointG st sp vs i.1 h) (fun _ => 0)
theorem goalsF_snoc (st sp : List Ed) (vs : Nat → List Nat) {nv : Nat} (is : List (Ix nv)) (i : Ix nv) : goalsF st sp vs (is ++ [i]) = pointG st sp vs i.1 (goalsF st sp vs is) := by unfold goalsF; rw [List.foldl_append]; rfl
theorem ok_same (vs : Nat → List Nat) (i : Nat) : (fun t => okB (vs i) t = true) = okI (psV vs) i := by
 funext t
 apply propext
 unfold okB okI psV
 rw [Bool.or_eq_true, decide_eq_true_eq]
 constructor
 ·rintro (h | h)
  ·exact .inl h
  ·unfold hasI at h
   rw [Bool.and_eq_true, decide_eq_true_eq] at h
   refine .inr ⟨t.toNat, by omega, ?_⟩
   unfold hasI
   rw [Bool.and_eq_true, decide_eq_true_eq, Int.toNat_natCast]
   exact ⟨by omega, h.2⟩
 ·rintro (h | ⟨k, rfl, h⟩)
  ·exact .inl h
  ·exact .inr h
theorem goals_at (x : RE) (vs : Nat → List Nat) {nv j : Nat} : ∀ k, k ≤ nv → ∀ p, ((goalsF (stE x 0 1 2 0) (spE x 0 1 2) vs (dn nv k)) p).testBit j = true ↔ atB (psV vs) nv j x k p := by
 intro k
 induction k with
 | zero =>
  intro _ p
  show (0 : Nat).testBit j = true ↔ False
  simp
 | succ k ih =>
  intro hk p
  have h : nv - 1 - k < nv := by omega
  rw [dn_succ h, goalsF_snoc]
  unfold pointG atB
  rw [stay_bit, ok_same]
  have e1 : (fun p => ((stayG (okB (vs (nv - 1 - k))) (stE x 0 1 2 0) (markG (nv - 1 - k) (stepG (spE x 0 1 2) (goalsF (stE x 0 1 2 0) (spE x 0 1 2) vs (dn nv k))))) p).testBit j = true) = sw (okI (psV vs) (nv - 1 - k)) (stE x 0 1 2 0) (baseB (spE x 0 1 2) (atB (psV vs) nv j x k) (nv - 1 - k = j)) := by
   funext q
   apply propext
   rw [stay_bit, ok_same]
   have e2 : (fun p => ((markG (nv - 1 - k) (stepG (spE x 0 1 2) (goalsF (stE x 0 1 2 0) (spE x 0 1 2) vs (dn nv k)))) p).testBit j = true) = baseB (spE x 0 1 2) (atB (psV vs) nv j x k) (nv - 1 - k = j) := by
    funext r
    apply propext
    unfold markG baseB
    rw [upd_bit, stepG_bit, Nat.testBit_two_pow, decide_eq_true_eq]
    have e3 : ∀ e : Ed, ((goalsF (stE x 0 1 2 0) (spE x 0 1 2) vs (dn nv k)) e.2.1).testBit j = true ↔ atB (psV vs) nv j x k e.2.1 := fun e => ih (by omega) e.2.1
    simp only [e3]
   rw [e2]
  rw [e1]
theorem has_one (x j : Nat) (hj : j < 64) : hasI [x] ((j : Nat) : Int) = x.testBit j := by
 unfold hasI has
 rw [decide_eq_true (by omega), Bool.true_and, Int.toNat_natCast, show j / 64 = 0 by omega, show j % 64 = j by omega]
 rfl
theorem row_tells {l : List Nd} (h : regL l = true) (vs : Nat → List Nat) {nv i j : Nat} (hi : i < nv) (hj : j < nv) (hn : nv ≤ 64) : hasI [goalsF (stE (reOf l) 0 1 2 0) (spE (reOf l) 0 1 2) vs (dn nv (nv - i)) 0] ((j : Nat) : Int) = tableR l vs nv i j := by
 rw [has_one _ _ (by omega), Bool.eq_iff_iff, goals_at _ _ _ (by omega), table_tree h vs nv hi hj]
 exact atB_way (psV vs) nv j (reOf l) i hi hj
end Go.Proofs.YtdbgaccnejffpaaGreatDoor.Paths
