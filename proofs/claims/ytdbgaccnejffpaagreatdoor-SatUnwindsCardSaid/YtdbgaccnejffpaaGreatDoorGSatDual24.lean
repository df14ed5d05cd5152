/-
  The landed node, kind by kind (stage 15). By an AI agent. (Written by wip/tools/gennode15.py.)
-/
import Derived.Test.YtdbgaccnejffpaaGreatDoorGSatDual1
import Derived.Test.YtdbgaccnejffpaaGreatDoorGSatDual22
import Derived.Test.YtdbgaccnejffpaaGreatDoorGSatDual23
namespace Go.Proofs.YtdbgaccnejffpaaGreatDoor.Sat
open Go.RowKit Go.Proofs.YtdbgaccnejffpaaGreatDoor.Ints Go.Proofs.YtdbgaccnejffpaaGreatDoor.Mem Go.Proofs.YtdbgaccnejffpaaGreatDoor.Src Go.Proofs.YtdbgaccnejffpaaGreatDoor.Paths Go.Proofs.YtdbgaccnejffpaaGreatDoor.Late Go.Proofs.YtdbgaccnejffpaaGreatDoor.Trace
def GotNd (J : Jd) (w0 : World) (k : Nat) (σ : List Value) (w : World) (e : Ending) (w' : World) : Prop :=
 ∃ (σ' : List Value) (A : Option Addr) (q c : Nat), e = .returned (.slice A q c) ∧ JS J w0 σ' w' ∧ w.grownBy w' (some J.bt) ∧ (∀ i, ¬ took J.l k i → σ'[i]? = σ[i]?) ∧ ((Tree.formKind (kindN J.l k) = true ∨ kindN J.l k = 19) → Tv J w' k (.slice A q c))
theorem kind_form {l : List Tree.Nd} (h : Tree.mayL l = true) {i : Nat} (hi : i < l.length) (hr : Tree.regKind (kindN l i) = false) : Tree.formKind (kindN l i) = true := by
 obtain ⟨n, hn, e⟩ := kind_some hi
 have hf := node_fields h hn
 unfold Tree.fieldsB at hf
 rw [Bool.and_eq_true, ← e] at hf
 have hr : ¬ (18 ≤ kindN l i ∧ kindN l i ≤ 22) := of_decide_eq_false hr
 have := (Tree.kinds_range (kindN l i)).1 hf.1
 exact decide_eq_true (by omega)
section
variable {J : Jd} {w0 w : World} {σ : List Value} {k m c : Nat} {nd : Tree.Nd} {K : Option Addr}
theorem live_kidO (hl : Live J k σ w) (hml : Tree.mayL J.l = true) (hk : k < J.l.length) {i : Nat} (ht : took J.l k i) (hf : Tree.formKind (kindN J.l i) = true ∨ kindN J.l i = 19) :
  ∃ b, σ[i]? = some (.slice (some ⟨b, 0, none⟩) J.n J.n) ∧ b ≠ J.bt ∧ b < w.heap.size ∧ RB w b J.n (tvB J i) ∧ OB w J.gj b J.n (tvB J i) := by
 obtain ⟨v, e, b, rfl, h1, h2, h3, h4⟩ := hl i (took_range hml hk ht).2 (fresh hml hk ht) hf
 exact ⟨b, e, h1, h2, h3, h4⟩
theorem live_kid (hl : Live J k σ w) (hml : Tree.mayL J.l = true) (hk : k < J.l.length) {i : Nat} (ht : took J.l k i) (hf : Tree.formKind (kindN J.l i) = true ∨ kindN J.l i = 19) :
  ∃ b, σ[i]? = some (.slice (some ⟨b, 0, none⟩) J.n J.n) ∧ b ≠ J.bt ∧ b < w.heap.size ∧ RB w b J.n (tvB J i) := by
 obtain ⟨b, h1, h2, h3, h4, -⟩ := live_kidO hl hml hk ht hf
 exact ⟨b, h1, h2, h3, h4⟩
theorem set_off {i j : Nat} (v : Value) (h : i ≠ j) : (σ.set i v)[j]? = σ[j]? := by rw [List.getElem?_set, if_neg h]
theorem one_kidO (h : JS J w0 σ w) (hl : Live J k σ w) (hnv : Nv J w0 k nd K m c) (hkc : Tree.kidc nd.kind = 1) (htr : Tree.takesReg nd.kind = false) : ∃ i b, (∀ V, JS J w0 σ V → Calls Tryz.prog 36 #[.pointer (some ⟨J.gj, 0, none⟩), Tree.ndV nd K m c, .int .i64 0] V fun e V' => e = .returned (.slice (some ⟨b, 0, none⟩) J.n J.n) ∧ JS J w0 (σ.set i (.slice none 0 0)) V' ∧ V.grownBy V' (some J.bt)) ∧
  b ≠ J.bt ∧ b < w.heap.size ∧ RB w b J.n (tvB J i) ∧ (∀ x, ¬ took J.l k x → (σ.set i (.slice none 0 0))[x]? = σ[x]?) ∧ foI J.l k = .o nd.kind nd.lo nd.hi (foI J.l i) ∧ OB w J.gj b J.n (tvB J i) := by
 have hk := (List.getElem?_eq_some_iff.1 hnv.hk).1
 have hkd := kind_of hnv.hk
 have hk1 : Tree.kidc (kindN J.l k) = 1 := by rw [hkd]; exact hkc
 obtain ⟨f1, f2, f3, f4⟩ := fo_node hnv.hk
 have ht : took J.l k (kidN J.l k 0) := .inr ⟨by rw [hkd]; exact htr, .inl ⟨hk1, rfl⟩⟩
 have hlt := kidN_one h.ml hk hk1
 obtain ⟨_, -, -, -, -, h6, h7⟩ := node_one h.ml hk hk1
 have hfk := kind_form h.ml (show kidN J.l k 0 < J.l.length by omega) (by rw [h6, h7, hkd]; exact htr)
 obtain ⟨b, e, h1, h2, h3, h4⟩ := live_kidO hl h.ml hk ht (.inl hfk)
 refine ⟨kidN J.l k 0, b, fun V hV => landKid J w0 σ k 0 nd K m c _ _ _ V hV hnv (by rw [hnv.len]; omega) e, h1, h2, h3, fun x hx => set_off _ (fun e => hx (e ▸ ht)), ?_, h4⟩
 rw [foI_one h.ml hk hk1, f1, f3, f4]
theorem one_kid (h : JS J w0 σ w) (hl : Live J k σ w) (hnv : Nv J w0 k nd K m c) (hkc : Tree.kidc nd.kind = 1) (htr : Tree.takesReg nd.kind = false) : ∃ i b, (∀ V, JS J w0 σ V → Calls Tryz.prog 36 #[.pointer (some ⟨J.gj, 0, none⟩), Tree.ndV nd K m c, .int .i64 0] V fun e V' => e = .returned (.slice (some ⟨b, 0, none⟩) J.n J.n) ∧ JS J w0 (σ.set i (.slice none 0 0)) V' ∧ V.grownBy V' (some J.bt)) ∧
  b ≠ J.bt ∧ b < w.heap.size ∧ RB w b J.n (tvB J i) ∧ (∀ x, ¬ took J.l k x → (σ.set i (.slice none 0 0))[x]? = σ[x]?) ∧ foI J.l k = .o nd.kind nd.lo nd.hi (foI J.l i) := by
 obtain ⟨i, b, h1, h2, h3, h4, h5, h6, -⟩ := one_kidO h hl hnv hkc htr
 exact ⟨i, b, h1, h2, h3, h4, h5, h6⟩
theorem two_kids (h : JS J w0 σ w) (hl : Live J k σ w) (hnv : Nv J w0 k nd K m c) (hkc : Tree.kidc nd.kind = 2) (htr : Tree.takesReg nd.kind = false) : ∃ i j b1 b2,
  (∀ V, JS J w0 σ V → Calls Tryz.prog 36 #[.pointer (some ⟨J.gj, 0, none⟩), Tree.ndV nd K m c, .int .i64 0] V fun e V' => e = .returned (.slice (some ⟨b1, 0, none⟩) J.n J.n) ∧ JS J w0 (σ.set i (.slice none 0 0)) V' ∧ V.grownBy V' (some J.bt)) ∧
  (∀ V, JS J w0 (σ.set i (.slice none 0 0)) V → Calls Tryz.prog 36 #[.pointer (some ⟨J.gj, 0, none⟩), Tree.ndV nd K m c, .int .i64 1] V fun e V' => e = .returned (.slice (some ⟨b2, 0, none⟩) J.n J.n) ∧ JS J w0 ((σ.set i (.slice none 0 0)).set j (.slice none 0 0)) V' ∧ V.grownBy V' (some J.bt)) ∧
  (∀ V, JS J w0 σ V → Calls Tryz.prog 36 #[.pointer (some ⟨J.gj, 0, none⟩), Tree.ndV nd K m c, .int .i64 1] V fun e V' => e = .returned (.slice (some ⟨b2, 0, none⟩) J.n J.n) ∧ JS J w0 (σ.set j (.slice none 0 0)) V' ∧ V.grownBy V' (some J.bt)) ∧
  (∀ V, JS J w0 (σ.set j (.slice none 0 0)) V → Calls Tryz.prog 36 #[.pointer (some ⟨J.gj, 0, none⟩), Tree.ndV nd K m c, .int .i64 0] V fun e V' => e = .returned (.slice (some ⟨b1, 0, none⟩) J.n J.n) ∧ JS J w0 ((σ.set j (.slice none 0 0)).set i (.slice none 0 0)) V' ∧ V.grownBy V' (some J.bt)) ∧
  (b1 ≠ J.bt ∧ b1 < w.heap.size ∧ RB w b1 J.n (tvB J i)) ∧ (b2 ≠ J.bt ∧ b2 < w.heap.size ∧ RB w b2 J.n (tvB J j)) ∧
  (∀ x, ¬ took J.l k x → ((σ.set i (.slice none 0 0)).set j (.slice none 0 0))[x]? = σ[x]?) ∧ (∀ x, ¬ took J.l k x → ((σ.set j (.slice none 0 0)).set i (.slice none 0 0))[x]? = σ[x]?) ∧ foI J.l k = .t nd.kind nd.lo nd.hi (foI J.l i) (foI J.l j) := by
 have hk := (List.getElem?_eq_some_iff.1 hnv.hk).1
 have hkd := kind_of hnv.hk
 have hk2 : Tree.kidc (kindN J.l k) = 2 := by rw [hkd]; exact hkc
 obtain ⟨f1, f2, f3, f4⟩ := fo_node hnv.hk
 have t0 : took J.l k (kidN J.l k 0) := .inr ⟨by rw [hkd]; exact htr, .inr ⟨hk2, .inl rfl⟩⟩
 have t1 : took J.l k (kidN J.l k 1) := .inr ⟨by rw [hkd]; exact htr, .inr ⟨hk2, .inr rfl⟩⟩
 obtain ⟨l0, l1⟩ := kidN_two h.ml hk hk2
 obtain ⟨_, t, -, -, g3, -, -, h6, h7, -, h9, h10⟩ := node_two h.ml hk hk2
 have hne : kidN J.l k 0 ≠ kidN J.l k 1 := by omega
 have hf0 := kind_form h.ml (show kidN J.l k 0 < J.l.length by omega) (by rw [h6, h9, hkd]; exact htr)
 have hf1 := kind_form h.ml (show kidN J.l k 1 < J.l.length by omega) (by rw [h7, h10, hkd]; exact htr)
 obtain ⟨b1, e1, x1⟩ := live_kid hl h.ml hk t0 (.inl hf0)
 obtain ⟨b2, e2, x2⟩ := live_kid hl h.ml hk t1 (.inl hf1)
 refine ⟨kidN J.l k 0, kidN J.l k 1, b1, b2, fun V hV => landKid J w0 σ k 0 nd K m c _ _ _ V hV hnv (by rw [hnv.len]; omega) e1, fun V hV => landKid J w0 _ k 1 nd K m c _ _ _ V hV hnv (by rw [hnv.len]; omega) ((set_off _ hne).trans e2),
  fun V hV => landKid J w0 σ k 1 nd K m c _ _ _ V hV hnv (by rw [hnv.len]; omega) e2, fun V hV => landKid J w0 _ k 0 nd K m c _ _ _ V hV hnv (by rw [hnv.len]; omega) ((set_off _ hne.symm).trans e1), x1, x2, fun x hx => ?_, fun x hx => ?_, ?_⟩
 ·rw [set_off _ (fun e : kidN J.l k 1 = x => hx (e ▸ t1)), set_off _ (fun e : kidN J.l k 0 = x => hx (e ▸ t0))]
 ·rw [set_off _ (fun e : kidN J.l k 0 = x => hx (e ▸ t0)), set_off _ (fun e : kidN J.l k 1 = x => hx (e ▸ t1))]
 ·rw [foI_two h.ml hk hk2, f1, f3, f4]
end
theorem nd_fin {J : Jd} {w0 w u w' : World} {σ σ' : List Value} {k : Nat} {f : Nat → Bool} {e : Ending} (hj : JS J w0 σ' u) (hg : w.grownBy u (some J.bt)) (ho : ∀ x, ¬ took J.l k x → σ'[x]? = σ[x]?) (hb : GotB u J.n f e w') (hf : ∀ p, p < J.n → tvB J k p = f p) : GotNd J w0 k σ w e w' := by
 obtain ⟨q, rfl, h1, h2⟩ := hb
 have h3 := OB.lt h1
 have h4 := hj.bt0
 have h5 := World.block_lt_of_cell? _ _ (hj.blk.cell 0 rfl)
 have h6 : J.gj < u.heap.size := h5
 exact ⟨σ', _, _, _, rfl, hj.later h2, grown_tr hg (grown_any h2), ho, fun _ => ⟨q, rfl, by omega, h3.2, (h1.congr (fun p hp => (hf p hp).symm)).rb, (h1.low (Nat.le_of_lt h6)).congr (fun p hp => (hf p hp).symm)⟩⟩
theorem undrew_g {w w' : World} {r : Option Nat} (h : w.drew.grownBy w' r) : w.grownBy w' r := ⟨h.os, h.tape, h.output, h.size, h.block⟩
theorem box_keep {V V' : World} {X o : Nat} {v0 v1 v2 v3 v4 : Value} (h : V.cell? ⟨X, 0, none⟩ = some v0 ∧ V.cell? ⟨X, 1, none⟩ = some v1 ∧ V.cell? ⟨X, 2, none⟩ = some v2 ∧ V.cell? ⟨X, 3, none⟩ = some v3 ∧ V.cell? ⟨X, 4, none⟩ = some v4) (hg : V.grownBy V' (some o)) (hne : X ≠ o) :
  V'.cell? ⟨X, 0, none⟩ = some v0 ∧ V'.cell? ⟨X, 1, none⟩ = some v1 ∧ V'.cell? ⟨X, 2, none⟩ = some v2 ∧ V'.cell? ⟨X, 3, none⟩ = some v3 ∧ V'.cell? ⟨X, 4, none⟩ = some v4 :=
 ⟨cell_grown hg h.1 hne, cell_grown hg h.2.1 hne, cell_grown hg h.2.2.1 hne, cell_grown hg h.2.2.2.1 hne, cell_grown hg h.2.2.2.2 hne⟩
theorem below_of_grown {B : Nat} {w w' : World} {o : Nat} (hg : w.grownBy w' (some o)) (ho : B ≤ o) (hB : B ≤ w.heap.size) : Below B w w' := ⟨hg.os, hg.tape, hg.output, hg.size, fun k hk => hg.block k (by omega) (fun e => by injection e; omega)⟩
theorem span_of {J : Jd} {w0 : World} {k m c : Nat} {nd : Tree.Nd} {K : Option Addr} (hnv : Nv J w0 k nd K m c) (hml : Tree.mayL J.l = true) (ht : Tree.timed nd.kind = true) : Ival.mayS nd.lo nd.hi = true := by
 have hf := node_fields hml hnv.hk
 unfold Tree.fieldsB at hf
 rw [Bool.and_eq_true, Bool.and_eq_true] at hf
 have := hf.2.2
 unfold Tree.okSpan at this
 rwa [ht] at this
set_option maxHeartbeats 8000000 in
set_option maxRecDepth 100000 in
theorem nodeC (b i : Nat) (kd : Int) (r : Bool) (w : World) (x0 : w.cell? ⟨b, 0, none⟩ = some (.int .i64 kd)) (hr : (kd == 1) = r) :
  Calls Tryz.prog 33 #[.int .i64 ((i : Nat) : Int), .pointer (some ⟨b, 0, none⟩)] w fun e w' => e = .returned (.bool r) ∧ Below w.heap.size w w' := by
 have HB0 := Lib.hid (Below.refl w.heap.size w)
 subst hr
 go_enter Tryz.func33, Tryz.ntmps33
 go_wp2_with fail
 go_ret
 exact ⟨rfl, HB0.out⟩
set_option maxHeartbeats 8000000 in
set_option maxRecDepth 100000 in
theorem node_1 (J : Jd) (w0 : World) (σ : List Value) (k m c : Nat) (nm : ByteArray) (lo hi : Int) (ks : List Int) (K : Option Addr) (w : World) (h : JS J w0 σ w) (_hl : Live J k σ w) (hnv : Nv J w0 k ⟨1, nm, lo, hi, ks⟩ K m c) :
  Calls Tryz.prog 24 #[.pointer (some ⟨J.gj, 0, none⟩), .agg #[.int .i64 1, .string nm, .int .i64 lo, .int .i64 hi, .slice K m c]] w (GotNd J w0 k σ w) := by
 obtain ⟨W, hW⟩ : ∃ W, w.alloc (.cells #[.int .i64 1, .string nm, .int .i64 lo, .int .i64 hi, .slice K m c] 37) = W := ⟨_, rfl⟩
 have hbW : Below w.heap.size w W := by rw [← hW]; exact (Below.refl _ _).alloc (Nat.le_refl _) _
 have d0 : W.cell? ⟨w.heap.size, 0, none⟩ = some (.int .i64 1) := by rw [← hW]; exact box_cell 0 _ rfl
 have d1 : W.cell? ⟨w.heap.size, 1, none⟩ = some (.string nm) := by rw [← hW]; exact box_cell 1 _ rfl
 have d2 : W.cell? ⟨w.heap.size, 2, none⟩ = some (.int .i64 lo) := by rw [← hW]; exact box_cell 2 _ rfl
 have d3 : W.cell? ⟨w.heap.size, 3, none⟩ = some (.int .i64 hi) := by rw [← hW]; exact box_cell 3 _ rfl
 have d4 : W.cell? ⟨w.heap.size, 4, none⟩ = some (.slice K m c) := by rw [← hW]; exact box_cell 4 _ rfl
 have HJ := Lib.hid (h.later hbW)
 have HGW := Lib.hid (grown_any (o := J.bt) hbW)
 have HNE := Lib.hid (show w.heap.size ≠ J.bt from by have := h.bt0; omega)
 have hn : J.n ≤ 1000 := by have := h.hn; omega
 have HT := Lib.hid h.jw.tn
 have hfo : foI J.l k = .z 1 nm.data.toList := by
  obtain ⟨f1, f2, -, -⟩ := fo_node hnv.hk
  rw [foI_zero (by rw [f1]; rfl), f1, f2]
 have HE := Lib.hid (landEach J.gj J.n J.ec 33 J.EA #[.pointer (some ⟨w.heap.size, 0, none⟩)] (fun _ => true) W (h.later hbW).jw.c1 enterNd (fun i hi0 V hV => nodeC w.heap.size i 1 true V (below_cell hV d0) rfl) (by have := h.hn; omega))
 have HO := Lib.hid hfo
 clear h hnv hfo hbW
 go_enter Tryz.func24, Tryz.ntmps24
 go_wp2_with fail
 refine HE.out.mono ?_
 rintro e w1 ⟨q, rfl, o1, o2⟩
 have HX := Lib.hid (And.intro o1 o2)
 clear o1 o2
 go_wp2_with fail
 go_ret
 exact nd_fin HJ.out HGW.out (fun _ _ => rfl) ⟨q, rfl, HX.out.1, HX.out.2⟩ (fun p hp => tv_true HT.out hp HO.out)
set_option maxHeartbeats 8000000 in
set_option maxRecDepth 100000 in
theorem node_2 (J : Jd) (w0 : World) (σ : List Value) (k m c : Nat) (nm : ByteArray) (lo hi : Int) (ks : List Int) (K : Option Addr) (w : World) (h : JS J w0 σ w) (_hl : Live J k σ w) (hnv : Nv J w0 k ⟨2, nm, lo, hi, ks⟩ K m c) :
  Calls Tryz.prog 24 #[.pointer (some ⟨J.gj, 0, none⟩), .agg #[.int .i64 2, .string nm, .int .i64 lo, .int .i64 hi, .slice K m c]] w (GotNd J w0 k σ w) := by
 obtain ⟨W, hW⟩ : ∃ W, w.alloc (.cells #[.int .i64 2, .string nm, .int .i64 lo, .int .i64 hi, .slice K m c] 37) = W := ⟨_, rfl⟩
 have hbW : Below w.heap.size w W := by rw [← hW]; exact (Below.refl _ _).alloc (Nat.le_refl _) _
 have d0 : W.cell? ⟨w.heap.size, 0, none⟩ = some (.int .i64 2) := by rw [← hW]; exact box_cell 0 _ rfl
 have d1 : W.cell? ⟨w.heap.size, 1, none⟩ = some (.string nm) := by rw [← hW]; exact box_cell 1 _ rfl
 have d2 : W.cell? ⟨w.heap.size, 2, none⟩ = some (.int .i64 lo) := by rw [← hW]; exact box_cell 2 _ rfl
 have d3 : W.cell? ⟨w.heap.size, 3, none⟩ = some (.int .i64 hi) := by rw [← hW]; exact box_cell 3 _ rfl
 have d4 : W.cell? ⟨w.heap.size, 4, none⟩ = some (.slice K m c) := by rw [← hW]; exact box_cell 4 _ rfl
 have HJ := Lib.hid (h.later hbW)
 have HGW := Lib.hid (grown_any (o := J.bt) hbW)
 have HNE := Lib.hid (show w.heap.size ≠ J.bt from by have := h.bt0; omega)
 have hn : J.n ≤ 1000 := by have := h.hn; omega
 have HT := Lib.hid h.jw.tn
 have hfo : foI J.l k = .z 2 nm.data.toList := by
  obtain ⟨f1, f2, -, -⟩ := fo_node hnv.hk
  rw [foI_zero (by rw [f1]; rfl), f1, f2]
 have HE := Lib.hid (landEach J.gj J.n J.ec 33 J.EA #[.pointer (some ⟨w.heap.size, 0, none⟩)] (fun _ => false) W (h.later hbW).jw.c1 enterNd (fun i hi0 V hV => nodeC w.heap.size i 2 false V (below_cell hV d0) rfl) (by have := h.hn; omega))
 have HO := Lib.hid hfo
 clear h hnv hfo hbW
 go_enter Tryz.func24, Tryz.ntmps24
 go_wp2_with fail
 refine HE.out.mono ?_
 rintro e w1 ⟨q, rfl, o1, o2⟩
 have HX := Lib.hid (And.intro o1 o2)
 clear o1 o2
 go_wp2_with fail
 go_ret
 exact nd_fin HJ.out HGW.out (fun _ _ => rfl) ⟨q, rfl, HX.out.1, HX.out.2⟩ (fun p hp => tv_false HO.out)
set_option maxHeartbeats 8000000 in
set_option maxRecDepth 100000 in
theorem node_3 (J : Jd) (w0 : World) (σ : List Value) (k m c : Nat) (nm : ByteArray) (lo hi : Int) (ks : List Int) (K : Option Addr) (w : World) (h : JS J w0 σ w) (_hl : Live J k σ w) (hnv : Nv J w0 k ⟨3, nm, lo, hi, ks⟩ K m c) :
  Calls Tryz.prog 24 #[.pointer (some ⟨J.gj, 0, none⟩), .agg #[.int .i64 3, .string nm, .int .i64 lo, .int .i64 hi, .slice K m c]] w (GotNd J w0 k σ w) := by
 obtain ⟨W, hW⟩ : ∃ W, w.alloc (.cells #[.int .i64 3, .string nm, .int .i64 lo, .int .i64 hi, .slice K m c] 37) = W := ⟨_, rfl⟩
 have hbW : Below w.heap.size w W := by rw [← hW]; exact (Below.refl _ _).alloc (Nat.le_refl _) _
 have d0 : W.cell? ⟨w.heap.size, 0, none⟩ = some (.int .i64 3) := by rw [← hW]; exact box_cell 0 _ rfl
 have d1 : W.cell? ⟨w.heap.size, 1, none⟩ = some (.string nm) := by rw [← hW]; exact box_cell 1 _ rfl
 have d2 : W.cell? ⟨w.heap.size, 2, none⟩ = some (.int .i64 lo) := by rw [← hW]; exact box_cell 2 _ rfl
 have d3 : W.cell? ⟨w.heap.size, 3, none⟩ = some (.int .i64 hi) := by rw [← hW]; exact box_cell 3 _ rfl
 have d4 : W.cell? ⟨w.heap.size, 4, none⟩ = some (.slice K m c) := by rw [← hW]; exact box_cell 4 _ rfl
 have HJ := Lib.hid (h.later hbW)
 have HGW := Lib.hid (grown_any (o := J.bt) hbW)
 have HNE := Lib.hid (show w.heap.size ≠ J.bt from by have := h.bt0; omega)
 have hn : J.n ≤ 1000 := by have := h.hn; omega
 have HT := Lib.hid h.jw.tn
 have hfo : foI J.l k = .z 3 nm.data.toList := by
  obtain ⟨f1, f2, -, -⟩ := fo_node hnv.hk
  rw [foI_zero (by rw [f1]; rfl), f1, f2]
 have HE := Lib.hid (landProp J nm W (h.later hbW).jw)
 have HO := Lib.hid hfo
 clear h hnv hfo hbW
 go_enter Tryz.func24, Tryz.ntmps24
 go_wp2_with fail
 refine HE.out.mono ?_
 rintro e w1 ⟨q, rfl, o1, o2⟩
 have HX := Lib.hid (And.intro o1 o2)
 clear o1 o2
 go_wp2_with fail
 go_ret
 exact nd_fin HJ.out HGW.out (fun _ _ => rfl) ⟨q, rfl, HX.out.1, HX.out.2⟩ (fun p hp => tv_prop HT.out hp HO.out)
set_option maxHeartbeats 8000000 in
set_option maxRecDepth 100000 in
theorem node_4 (J : Jd) (w0 : World) (σ : List Value) (k m c : Nat) (nm : ByteArray) (lo hi : Int) (ks : List Int) (K : Option Addr) (w : World) (h : JS J w0 σ w) (hl : Live J k σ w) (hnv : Nv J w0 k ⟨4, nm, lo, hi, ks⟩ K m c) :
  Calls Tryz.prog 24 #[.pointer (some ⟨J.gj, 0, none⟩), .agg #[.int .i64 4, .string nm, .int .i64 lo, .int .i64 hi, .slice K m c]] w (GotNd J w0 k σ w) := by
 obtain ⟨i, b, hK, hb1, hb2, hb3, hoff, hfo⟩ := one_kid h hl hnv rfl rfl
 obtain ⟨W, hW⟩ : ∃ W, w.alloc (.cells #[.int .i64 4, .string nm, .int .i64 lo, .int .i64 hi, .slice K m c] 37) = W := ⟨_, rfl⟩
 have hbW : Below w.heap.size w W := by rw [← hW]; exact (Below.refl _ _).alloc (Nat.le_refl _) _
 have d0 : W.cell? ⟨w.heap.size, 0, none⟩ = some (.int .i64 4) := by rw [← hW]; exact box_cell 0 _ rfl
 have d1 : W.cell? ⟨w.heap.size, 1, none⟩ = some (.string nm) := by rw [← hW]; exact box_cell 1 _ rfl
 have d2 : W.cell? ⟨w.heap.size, 2, none⟩ = some (.int .i64 lo) := by rw [← hW]; exact box_cell 2 _ rfl
 have d3 : W.cell? ⟨w.heap.size, 3, none⟩ = some (.int .i64 hi) := by rw [← hW]; exact box_cell 3 _ rfl
 have d4 : W.cell? ⟨w.heap.size, 4, none⟩ = some (.slice K m c) := by rw [← hW]; exact box_cell 4 _ rfl
 have HJ := Lib.hid (h.later hbW)
 have HGW := Lib.hid (grown_any (o := J.bt) hbW)
 have HNE := Lib.hid (show w.heap.size ≠ J.bt from by have := h.bt0; omega)
 have hn : J.n ≤ 1000 := by have := h.hn; omega
 have HT := Lib.hid h.jw.tn
 have HK := Lib.hid hK
 have HR := Lib.hid (hb3.below hbW)
 have HB := Lib.hid (And.intro hb1 (show b < W.heap.size from Nat.lt_of_lt_of_le hb2 hbW.size))
 have HO := Lib.hid (And.intro hoff hfo)
 clear h hl hnv hK hb1 hb2 hb3 hoff hfo hbW
 go_enter Tryz.func24, Tryz.ntmps24
 go_wp2_with fail
 refine (HK.out W HJ.out).mono ?_
 rintro e w1 ⟨rfl, j1, g1⟩
 have HJ1 := Lib.hid j1
 have HG1 := Lib.hid (grown_tr HGW.out g1)
 have HN := Lib.hid (landNot b J.n (tvB J i) w1 (HR.out.grown g1 HB.out.1) hn)
 clear j1 g1
 go_wp2_with fail
 refine HN.out.mono ?_
 rintro e w2 ⟨q, rfl, o1, o2⟩
 have HX := Lib.hid (And.intro o1 o2)
 clear o1 o2
 go_wp2_with fail
 go_ret
 exact nd_fin HJ1.out HG1.out HO.out.1 ⟨q, rfl, HX.out.1, HX.out.2⟩ (fun p hp => tv_not HT.out hp HO.out.2)
set_option maxHeartbeats 8000000 in
set_option maxRecDepth 100000 in
theorem node_5 (J : Jd) (w0 : World) (σ : List Value) (k m c : Nat) (nm : ByteArray) (lo hi : Int) (ks : List Int) (K : Option Addr) (w : World) (h : JS J w0 σ w) (hl : Live J k σ w) (hnv : Nv J w0 k ⟨5, nm, lo, hi, ks⟩ K m c) :
  Calls Tryz.prog 24 #[.pointer (some ⟨J.gj, 0, none⟩), .agg #[.int .i64 5, .string nm, .int .i64 lo, .int .i64 hi, .slice K m c]] w (GotNd J w0 k σ w) := by
 obtain ⟨i, j, b1, b2, hK0, hK1, hL1, hL0, ⟨x1, x2, x3⟩, ⟨y1, y2, y3⟩, ho1, ho2, hfo⟩ := two_kids h hl hnv rfl rfl
 obtain ⟨W, hW⟩ : ∃ W, w.alloc (.cells #[.int .i64 5, .string nm, .int .i64 lo, .int .i64 hi, .slice K m c] 37) = W := ⟨_, rfl⟩
 have hbW : Below w.heap.size w W := by rw [← hW]; exact (Below.refl _ _).alloc (Nat.le_refl _) _
 have d0 : W.cell? ⟨w.heap.size, 0, none⟩ = some (.int .i64 5) := by rw [← hW]; exact box_cell 0 _ rfl
 have d1 : W.cell? ⟨w.heap.size, 1, none⟩ = some (.string nm) := by rw [← hW]; exact box_cell 1 _ rfl
 have d2 : W.cell? ⟨w.heap.size, 2, none⟩ = some (.int .i64 lo) := by rw [← hW]; exact box_cell 2 _ rfl
 have d3 : W.cell? ⟨w.heap.size, 3, none⟩ = some (.int .i64 hi) := by rw [← hW]; exact box_cell 3 _ rfl
 have d4 : W.cell? ⟨w.heap.size, 4, none⟩ = some (.slice K m c) := by rw [← hW]; exact box_cell 4 _ rfl
 have HJ := Lib.hid (h.later hbW)
 have HGW := Lib.hid (grown_any (o := J.bt) hbW)
 have HNE := Lib.hid (show w.heap.size ≠ J.bt from by have := h.bt0; omega)
 have hn : J.n ≤ 1000 := by have := h.hn; omega
 have HT := Lib.hid h.jw.tn
 have HK0 := Lib.hid hK0
 have HK1 := Lib.hid hK1
 have HL0 := Lib.hid hL0
 have HL1 := Lib.hid hL1
 have HR1 := Lib.hid (x3.below hbW)
 have HR2 := Lib.hid (y3.below hbW)
 have HB := Lib.hid (And.intro x1 (And.intro y1 (And.intro (show b1 < W.heap.size from Nat.lt_of_lt_of_le x2 hbW.size) (show b2 < W.heap.size from Nat.lt_of_lt_of_le y2 hbW.size))))
 have HO := Lib.hid (And.intro ho1 hfo)
 clear h hl hnv hK0 hK1 hL0 hL1 x1 x2 x3 y1 y2 y3 ho1 ho2 hfo hbW
 go_enter Tryz.func24, Tryz.ntmps24
 go_wp2_with fail
 refine wp_region_held_drew (S := fun V => V.cell? ⟨w.heap.size, 0, none⟩ = some (.int .i64 5) ∧ V.cell? ⟨w.heap.size, 1, none⟩ = some (.string nm) ∧ V.cell? ⟨w.heap.size, 2, none⟩ = some (.int .i64 lo) ∧ V.cell? ⟨w.heap.size, 3, none⟩ = some (.int .i64 hi) ∧ V.cell? ⟨w.heap.size, 4, none⟩ = some (.slice K m c)) (by kernel_rfl) ⟨d0, d1, d2, d3, d4⟩ (fun hHeld => ?_)
 refine tkOp 0 hHeld ?_
 refine tkOp 1 hHeld ?_
 refine tkOp 2 hHeld ?_
 refine tkOp 3 hHeld ?_
 refine tkOp 4 hHeld ?_
 refine tkOp 6 hHeld ?_
 refine tkOp 7 hHeld ?_
 refine tkCall 5 (fun Kt hKt => ?_)
 go_simp
 (go_at_call 36; refine (HK0.out _ (HJ.out.later (Below.refl _ _).drew)).mono ?_; rintro e w1 ⟨rfl, j1, g1⟩)
 refine hKt.out _ _ ?_ (fun hT => ?_)
 ·(exact box_keep hHeld g1 HNE.out)
 clear hKt Kt hHeld
 have hHeld := hT
 clear hT
 try simp only [Act.put, tkA, tkB, tkC]
 refine tkCall 8 (fun Kt hKt => ?_)
 go_simp
 (go_at_call 36; refine (HK1.out _ j1).mono ?_; rintro e w2 ⟨rfl, j2, g2⟩)
 refine hKt.out _ _ ?_ (fun hT => ?_)
 ·(exact box_keep hHeld g2 HNE.out)
 clear hKt Kt hHeld
 have hHeld := hT
 clear hT
 try simp only [Act.put, tkA, tkB, tkC]
 refine tkCall 9 (fun Kt hKt => ?_)
 go_simp
 (go_at_call 37; refine (landBoth J 5 b1 b2 _ _ w2 j2.jw (by decide) ((HR1.out.grown (undrew_g g1) HB.out.1).grown g2 HB.out.1) ((HR2.out.grown (undrew_g g1) HB.out.2.1).grown g2 HB.out.2.1)).mono ?_; rintro e w3 ⟨q, rfl, o1, o2⟩)
 refine hKt.out _ _ ?_ (fun hT => ?_)
 ·(exact box_keep hHeld (grown_any o2) HNE.out)
 clear hKt Kt hHeld
 have hHeld := hT
 clear hT
 try simp only [Act.put, tkA, tkB, tkC]
 refine tkOp 10 hHeld ?_
 refine wpAnyH_done (by kernel_rfl) ?_ _
 have HX := Lib.hid (And.intro o1 o2)
 have HJ2 := Lib.hid j2
 have HG2 := Lib.hid (grown_tr (grown_tr HGW.out (undrew_g g1)) g2)
 clear hHeld o1 o2 j1 j2 g1 g2
 go_wp2_with fail
 go_ret
 exact nd_fin HJ2.out HG2.out HO.out.1 ⟨q, rfl, HX.out.1, HX.out.2⟩ (fun p hp => tv_both HT.out hp (by decide) HO.out.2)
set_option maxHeartbeats 8000000 in
set_option maxRecDepth 100000 in
theorem node_6 (J : Jd) (w0 : World) (σ : List Value) (k m c : Nat) (nm : ByteArray) (lo hi : Int) (ks : List Int) (K : Option Addr) (w : World) (h : JS J w0 σ w) (hl : Live J k σ w) (hnv : Nv J w0 k ⟨6, nm, lo, hi, ks⟩ K m c) :
  Calls Tryz.prog 24 #[.pointer (some ⟨J.gj, 0, none⟩), .agg #[.int .i64 6, .string nm, .int .i64 lo, .int .i64 hi, .slice K m c]] w (GotNd J w0 k σ w) := by
 obtain ⟨i, j, b1, b2, hK0, hK1, hL1, hL0, ⟨x1, x2, x3⟩, ⟨y1, y2, y3⟩, ho1, ho2, hfo⟩ := two_kids h hl hnv rfl rfl
 obtain ⟨W, hW⟩ : ∃ W, w.alloc (.cells #[.int .i64 6, .string nm, .int .i64 lo, .int .i64 hi, .slice K m c] 37) = W := ⟨_, rfl⟩
 have hbW : Below w.heap.size w W := by rw [← hW]; exact (Below.refl _ _).alloc (Nat.le_refl _) _
 have d0 : W.cell? ⟨w.heap.size, 0, none⟩ = some (.int .i64 6) := by rw [← hW]; exact box_cell 0 _ rfl
 have d1 : W.cell? ⟨w.heap.size, 1, none⟩ = some (.string nm) := by rw [← hW]; exact box_cell 1 _ rfl
 have d2 : W.cell? ⟨w.heap.size, 2, none⟩ = some (.int .i64 lo) := by rw [← hW]; exact box_cell 2 _ rfl
 have d3 : W.cell? ⟨w.heap.size, 3, none⟩ = some (.int .i64 hi) := by rw [← hW]; exact box_cell 3 _ rfl
 have d4 : W.cell? ⟨w.heap.size, 4, none⟩ = some (.slice K m c) := by rw [← hW]; exact box_cell 4 _ rfl
 have HJ := Lib.hid (h.later hbW)
 have HGW := Lib.hid (grown_any (o := J.bt) hbW)
 have HNE := Lib.hid (show w.heap.size ≠ J.bt from by have := h.bt0; omega)
 have hn : J.n ≤ 1000 := by have := h.hn; omega
 have HT := Lib.hid h.jw.tn
 have HK0 := Lib.hid hK0
 have HK1 := Lib.hid hK1
 have HL0 := Lib.hid hL0
 have HL1 := Lib.hid hL1
 have HR1 := Lib.hid (x3.below hbW)
 have HR2 := Lib.hid (y3.below hbW)
 have HB := Lib.hid (And.intro x1 (And.intro y1 (And.intro (show b1 < W.heap.size from Nat.lt_of_lt_of_le x2 hbW.size) (show b2 < W.heap.size from Nat.lt_of_lt_of_le y2 hbW.size))))
 have HO := Lib.hid (And.intro ho1 hfo)
 clear h hl hnv hK0 hK1 hL0 hL1 x1 x2 x3 y1 y2 y3 ho1 ho2 hfo hbW
 go_enter Tryz.func24, Tryz.ntmps24
 go_wp2_with fail
 refine wp_region_held_drew (S := fun V => V.cell? ⟨w.heap.size, 0, none⟩ = some (.int .i64 6) ∧ V.cell? ⟨w.heap.size, 1, none⟩ = some (.string nm) ∧ V.cell? ⟨w.heap.size, 2, none⟩ = some (.int .i64 lo) ∧ V.cell? ⟨w.heap.size, 3, none⟩ = some (.int .i64 hi) ∧ V.cell? ⟨w.heap.size, 4, none⟩ = some (.slice K m c)) (by kernel_rfl) ⟨d0, d1, d2, d3, d4⟩ (fun hHeld => ?_)
 refine tkOp 0 hHeld ?_
 refine tkOp 1 hHeld ?_
 refine tkOp 2 hHeld ?_
 refine tkOp 3 hHeld ?_
 refine tkOp 4 hHeld ?_
 refine tkOp 6 hHeld ?_
 refine tkOp 7 hHeld ?_
 refine tkCall 5 (fun Kt hKt => ?_)
 go_simp
 (go_at_call 36; refine (HK0.out _ (HJ.out.later (Below.refl _ _).drew)).mono ?_; rintro e w1 ⟨rfl, j1, g1⟩)
 refine hKt.out _ _ ?_ (fun hT => ?_)
 ·(exact box_keep hHeld g1 HNE.out)
 clear hKt Kt hHeld
 have hHeld := hT
 clear hT
 try simp only [Act.put, tkA, tkB, tkC]
 refine tkCall 8 (fun Kt hKt => ?_)
 go_simp
 (go_at_call 36; refine (HK1.out _ j1).mono ?_; rintro e w2 ⟨rfl, j2, g2⟩)
 refine hKt.out _ _ ?_ (fun hT => ?_)
 ·(exact box_keep hHeld g2 HNE.out)
 clear hKt Kt hHeld
 have hHeld := hT
 clear hT
 try simp only [Act.put, tkA, tkB, tkC]
 refine tkCall 9 (fun Kt hKt => ?_)
 go_simp
 (go_at_call 37; refine (landBoth J 6 b1 b2 _ _ w2 j2.jw (by decide) ((HR1.out.grown (undrew_g g1) HB.out.1).grown g2 HB.out.1) ((HR2.out.grown (undrew_g g1) HB.out.2.1).grown g2 HB.out.2.1)).mono ?_; rintro e w3 ⟨q, rfl, o1, o2⟩)
 refine hKt.out _ _ ?_ (fun hT => ?_)
 ·(exact box_keep hHeld (grown_any o2) HNE.out)
 clear hKt Kt hHeld
 have hHeld := hT
 clear hT
 try simp only [Act.put, tkA, tkB, tkC]
 refine tkOp 10 hHeld ?_
 refine wpAnyH_done (by kernel_rfl) ?_ _
 have HX := Lib.hid (And.intro o1 o2)
 have HJ2 := Lib.hid j2
 have HG2 := Lib.hid (grown_tr (grown_tr HGW.out (undrew_g g1)) g2)
 clear hHeld o1 o2 j1 j2 g1 g2
 go_wp2_with fail
 go_ret
 exact nd_fin HJ2.out HG2.out HO.out.1 ⟨q, rfl, HX.out.1, HX.out.2⟩ (fun p hp => tv_both HT.out hp (by decide) HO.out.2)
set_option maxHeartbeats 8000000 in
set_option maxRecDepth 100000 in
theorem node_7 (J : Jd) (w0 : World) (σ : List Value) (k m c : Nat) (nm : ByteArray) (lo hi : Int) (ks : List Int) (K : Option Addr) (w : World) (h : JS J w0 σ w) (hl : Live J k σ w) (hnv : Nv J w0 k ⟨7, nm, lo, hi, ks⟩ K m c) :
  Calls Tryz.prog 24 #[.pointer (some ⟨J.gj, 0, none⟩), .agg #[.int .i64 7, .string nm, .int .i64 lo, .int .i64 hi, .slice K m c]] w (GotNd J w0 k σ w) := by
 obtain ⟨i, j, b1, b2, hK0, hK1, hL1, hL0, ⟨x1, x2, x3⟩, ⟨y1, y2, y3⟩, ho1, ho2, hfo⟩ := two_kids h hl hnv rfl rfl
 obtain ⟨W, hW⟩ : ∃ W, w.alloc (.cells #[.int .i64 7, .string nm, .int .i64 lo, .int .i64 hi, .slice K m c] 37) = W := ⟨_, rfl⟩
 have hbW : Below w.heap.size w W := by rw [← hW]; exact (Below.refl _ _).alloc (Nat.le_refl _) _
 have d0 : W.cell? ⟨w.heap.size, 0, none⟩ = some (.int .i64 7) := by rw [← hW]; exact box_cell 0 _ rfl
 have d1 : W.cell? ⟨w.heap.size, 1, none⟩ = some (.string nm) := by rw [← hW]; exact box_cell 1 _ rfl
 have d2 : W.cell? ⟨w.heap.size, 2, none⟩ = some (.int .i64 lo) := by rw [← hW]; exact box_cell 2 _ rfl
 have d3 : W.cell? ⟨w.heap.size, 3, none⟩ = some (.int .i64 hi) := by rw [← hW]; exact box_cell 3 _ rfl
 have d4 : W.cell? ⟨w.heap.size, 4, none⟩ = some (.slice K m c) := by rw [← hW]; exact box_cell 4 _ rfl
 have HJ := Lib.hid (h.later hbW)
 have HGW := Lib.hid (grown_any (o := J.bt) hbW)
 have HNE := Lib.hid (show w.heap.size ≠ J.bt from by have := h.bt0; omega)
 have hn : J.n ≤ 1000 := by have := h.hn; omega
 have HT := Lib.hid h.jw.tn
 have HK0 := Lib.hid hK0
 have HK1 := Lib.hid hK1
 have HL0 := Lib.hid hL0
 have HL1 := Lib.hid hL1
 have HR1 := Lib.hid (x3.below hbW)
 have HR2 := Lib.hid (y3.below hbW)
 have HB := Lib.hid (And.intro x1 (And.intro y1 (And.intro (show b1 < W.heap.size from Nat.lt_of_lt_of_le x2 hbW.size) (show b2 < W.heap.size from Nat.lt_of_lt_of_le y2 hbW.size))))
 have HO := Lib.hid (And.intro ho1 hfo)
 clear h hl hnv hK0 hK1 hL0 hL1 x1 x2 x3 y1 y2 y3 ho1 ho2 hfo hbW
 go_enter Tryz.func24, Tryz.ntmps24
 go_wp2_with fail
 refine wp_region_held_drew (S := fun V => V.cell? ⟨w.heap.size, 0, none⟩ = some (.int .i64 7) ∧ V.cell? ⟨w.heap.size, 1, none⟩ = some (.string nm) ∧ V.cell? ⟨w.heap.size, 2, none⟩ = some (.int .i64 lo) ∧ V.cell? ⟨w.heap.size, 3, none⟩ = some (.int .i64 hi) ∧ V.cell? ⟨w.heap.size, 4, none⟩ = some (.slice K m c)) (by kernel_rfl) ⟨d0, d1, d2, d3, d4⟩ (fun hHeld => ?_)
 refine tkOp 0 hHeld ?_
 refine tkOp 1 hHeld ?_
 refine tkOp 2 hHeld ?_
 refine tkOp 3 hHeld ?_
 refine tkOp 4 hHeld ?_
 refine tkOp 6 hHeld ?_
 refine tkOp 7 hHeld ?_
 refine tkCall 5 (fun Kt hKt => ?_)
 go_simp
 (go_at_call 36; refine (HK0.out _ (HJ.out.later (Below.refl _ _).drew)).mono ?_; rintro e w1 ⟨rfl, j1, g1⟩)
 refine hKt.out _ _ ?_ (fun hT => ?_)
 ·(exact box_keep hHeld g1 HNE.out)
 clear hKt Kt hHeld
 have hHeld := hT
 clear hT
 try simp only [Act.put, tkA, tkB, tkC]
 refine tkCall 8 (fun Kt hKt => ?_)
 go_simp
 (go_at_call 36; refine (HK1.out _ j1).mono ?_; rintro e w2 ⟨rfl, j2, g2⟩)
 refine hKt.out _ _ ?_ (fun hT => ?_)
 ·(exact box_keep hHeld g2 HNE.out)
 clear hKt Kt hHeld
 have hHeld := hT
 clear hT
 try simp only [Act.put, tkA, tkB, tkC]
 refine tkCall 9 (fun Kt hKt => ?_)
 go_simp
 (go_at_call 37; refine (landBoth J 7 b1 b2 _ _ w2 j2.jw (by decide) ((HR1.out.grown (undrew_g g1) HB.out.1).grown g2 HB.out.1) ((HR2.out.grown (undrew_g g1) HB.out.2.1).grown g2 HB.out.2.1)).mono ?_; rintro e w3 ⟨q, rfl, o1, o2⟩)
 refine hKt.out _ _ ?_ (fun hT => ?_)
 ·(exact box_keep hHeld (grown_any o2) HNE.out)
 clear hKt Kt hHeld
 have hHeld := hT
 clear hT
 try simp only [Act.put, tkA, tkB, tkC]
 refine tkOp 10 hHeld ?_
 refine wpAnyH_done (by kernel_rfl) ?_ _
 have HX := Lib.hid (And.intro o1 o2)
 have HJ2 := Lib.hid j2
 have HG2 := Lib.hid (grown_tr (grown_tr HGW.out (undrew_g g1)) g2)
 clear hHeld o1 o2 j1 j2 g1 g2
 go_wp2_with fail
 go_ret
 exact nd_fin HJ2.out HG2.out HO.out.1 ⟨q, rfl, HX.out.1, HX.out.2⟩ (fun p hp => tv_both HT.out hp (by decide) HO.out.2)
set_option maxHeartbeats 8000000 in
set_option maxRecDepth 100000 in
theorem node_8 (J : Jd) (w0 : World) (σ : List Value) (k m c : Nat) (nm : ByteArray) (lo hi : Int) (ks : List Int) (K : Option Addr) (w : World) (h : JS J w0 σ w) (hl : Live J k σ w) (hnv : Nv J w0 k ⟨8, nm, lo, hi, ks⟩ K m c) :
  Calls Tryz.prog 24 #[.pointer (some ⟨J.gj, 0, none⟩), .agg #[.int .i64 8, .string nm, .int .i64 lo, .int .i64 hi, .slice K m c]] w (GotNd J w0 k σ w) := by
 obtain ⟨i, b, hK, hb1, hb2, hb3, hoff, hfo⟩ := one_kid h hl hnv rfl rfl
 obtain ⟨W, hW⟩ : ∃ W, w.alloc (.cells #[.int .i64 8, .string nm, .int .i64 lo, .int .i64 hi, .slice K m c] 37) = W := ⟨_, rfl⟩
 have hbW : Below w.heap.size w W := by rw [← hW]; exact (Below.refl _ _).alloc (Nat.le_refl _) _
 have d0 : W.cell? ⟨w.heap.size, 0, none⟩ = some (.int .i64 8) := by rw [← hW]; exact box_cell 0 _ rfl
 have d1 : W.cell? ⟨w.heap.size, 1, none⟩ = some (.string nm) := by rw [← hW]; exact box_cell 1 _ rfl
 have d2 : W.cell? ⟨w.heap.size, 2, none⟩ = some (.int .i64 lo) := by rw [← hW]; exact box_cell 2 _ rfl
 have d3 : W.cell? ⟨w.heap.size, 3, none⟩ = some (.int .i64 hi) := by rw [← hW]; exact box_cell 3 _ rfl
 have d4 : W.cell? ⟨w.heap.size, 4, none⟩ = some (.slice K m c) := by rw [← hW]; exact box_cell 4 _ rfl
 have HJ := Lib.hid (h.later hbW)
 have HGW := Lib.hid (grown_any (o := J.bt) hbW)
 have HNE := Lib.hid (show w.heap.size ≠ J.bt from by have := h.bt0; omega)
 have hn : J.n ≤ 1000 := by have := h.hn; omega
 have HT := Lib.hid h.jw.tn
 have HK := Lib.hid hK
 have HR := Lib.hid (hb3.below hbW)
 have HB := Lib.hid (And.intro hb1 (show b < W.heap.size from Nat.lt_of_lt_of_le hb2 hbW.size))
 have HO := Lib.hid (And.intro hoff hfo)
 clear h hl hnv hK hb1 hb2 hb3 hoff hfo hbW
 go_enter Tryz.func24, Tryz.ntmps24
 go_wp2_with fail
 refine wp_region_held_drew (S := fun V => V.cell? ⟨w.heap.size, 0, none⟩ = some (.int .i64 8) ∧ V.cell? ⟨w.heap.size, 1, none⟩ = some (.string nm) ∧ V.cell? ⟨w.heap.size, 2, none⟩ = some (.int .i64 lo) ∧ V.cell? ⟨w.heap.size, 3, none⟩ = some (.int .i64 hi) ∧ V.cell? ⟨w.heap.size, 4, none⟩ = some (.slice K m c)) (by kernel_rfl) ⟨d0, d1, d2, d3, d4⟩ (fun hHeld => ?_)
 refine tkOp 0 hHeld ?_
 refine tkOp 1 hHeld ?_
 refine tkOp 2 hHeld ?_
 refine tkOp 3 hHeld ?_
 refine tkOp 4 hHeld ?_
 refine tkCall 5 (fun Kt hKt => ?_)
 go_simp
 (go_at_call 36; refine (HK.out _ (HJ.out.later (Below.refl _ _).drew)).mono ?_; rintro e w1 ⟨rfl, j1, g1⟩)
 refine hKt.out _ _ ?_ (fun hT => ?_)
 ·(exact box_keep hHeld g1 HNE.out)
 clear hKt Kt hHeld
 have hHeld := hT
 clear hT
 try simp only [Act.put, tkA, tkB, tkC]
 refine tkCall 6 (fun Kt hKt => ?_)
 go_simp
 (go_at_call 38; refine (landPrev J lo hi b _ w1 j1.jw (HR.out.grown (undrew_g g1) HB.out.1)).mono ?_; rintro e w2 ⟨q, rfl, o1, o2⟩)
 refine hKt.out _ _ ?_ (fun hT => ?_)
 ·(exact box_keep hHeld (grown_any o2) HNE.out)
 clear hKt Kt hHeld
 have hHeld := hT
 clear hT
 try simp only [Act.put, tkA, tkB, tkC]
 refine tkOp 7 hHeld ?_
 refine wpAnyH_done (by kernel_rfl) ?_ _
 have HX := Lib.hid (And.intro o1 o2)
 have HJ1 := Lib.hid j1
 have HG1 := Lib.hid (grown_tr HGW.out (undrew_g g1))
 clear hHeld o1 o2 j1 g1
 go_wp2_with fail
 go_ret
 exact nd_fin HJ1.out HG1.out HO.out.1 ⟨q, rfl, HX.out.1, HX.out.2⟩ (fun p hp => tv_prev HT.out hp HO.out.2)
set_option maxHeartbeats 8000000 in
set_option maxRecDepth 100000 in
theorem node_9 (J : Jd) (w0 : World) (σ : List Value) (k m c : Nat) (nm : ByteArray) (lo hi : Int) (ks : List Int) (K : Option Addr) (w : World) (h : JS J w0 σ w) (hl : Live J k σ w) (hnv : Nv J w0 k ⟨9, nm, lo, hi, ks⟩ K m c) :
  Calls Tryz.prog 24 #[.pointer (some ⟨J.gj, 0, none⟩), .agg #[.int .i64 9, .string nm, .int .i64 lo, .int .i64 hi, .slice K m c]] w (GotNd J w0 k σ w) := by
 obtain ⟨i, b, hK, hb1, hb2, hb3, hoff, hfo⟩ := one_kid h hl hnv rfl rfl
 obtain ⟨W, hW⟩ : ∃ W, w.alloc (.cells #[.int .i64 9, .string nm, .int .i64 lo, .int .i64 hi, .slice K m c] 37) = W := ⟨_, rfl⟩
 have hbW : Below w.heap.size w W := by rw [← hW]; exact (Below.refl _ _).alloc (Nat.le_refl _) _
 have d0 : W.cell? ⟨w.heap.size, 0, none⟩ = some (.int .i64 9) := by rw [← hW]; exact box_cell 0 _ rfl
 have d1 : W.cell? ⟨w.heap.size, 1, none⟩ = some (.string nm) := by rw [← hW]; exact box_cell 1 _ rfl
 have d2 : W.cell? ⟨w.heap.size, 2, none⟩ = some (.int .i64 lo) := by rw [← hW]; exact box_cell 2 _ rfl
 have d3 : W.cell? ⟨w.heap.size, 3, none⟩ = some (.int .i64 hi) := by rw [← hW]; exact box_cell 3 _ rfl
 have d4 : W.cell? ⟨w.heap.size, 4, none⟩ = some (.slice K m c) := by rw [← hW]; exact box_cell 4 _ rfl
 have HJ := Lib.hid (h.later hbW)
 have HGW := Lib.hid (grown_any (o := J.bt) hbW)
 have HNE := Lib.hid (show w.heap.size ≠ J.bt from by have := h.bt0; omega)
 have hn : J.n ≤ 1000 := by have := h.hn; omega
 have HT := Lib.hid h.jw.tn
 have HK := Lib.hid hK
 have HR := Lib.hid (hb3.below hbW)
 have HB := Lib.hid (And.intro hb1 (show b < W.heap.size from Nat.lt_of_lt_of_le hb2 hbW.size))
 have HO := Lib.hid (And.intro hoff hfo)
 clear h hl hnv hK hb1 hb2 hb3 hoff hfo hbW
 go_enter Tryz.func24, Tryz.ntmps24
 go_wp2_with fail
 refine wp_region_held_drew (S := fun V => V.cell? ⟨w.heap.size, 0, none⟩ = some (.int .i64 9) ∧ V.cell? ⟨w.heap.size, 1, none⟩ = some (.string nm) ∧ V.cell? ⟨w.heap.size, 2, none⟩ = some (.int .i64 lo) ∧ V.cell? ⟨w.heap.size, 3, none⟩ = some (.int .i64 hi) ∧ V.cell? ⟨w.heap.size, 4, none⟩ = some (.slice K m c)) (by kernel_rfl) ⟨d0, d1, d2, d3, d4⟩ (fun hHeld => ?_)
 refine tkOp 0 hHeld ?_
 refine tkOp 1 hHeld ?_
 refine tkOp 2 hHeld ?_
 refine tkOp 3 hHeld ?_
 refine tkOp 4 hHeld ?_
 refine tkCall 5 (fun Kt hKt => ?_)
 go_simp
 (go_at_call 36; refine (HK.out _ (HJ.out.later (Below.refl _ _).drew)).mono ?_; rintro e w1 ⟨rfl, j1, g1⟩)
 refine hKt.out _ _ ?_ (fun hT => ?_)
 ·(exact box_keep hHeld g1 HNE.out)
 clear hKt Kt hHeld
 have hHeld := hT
 clear hT
 try simp only [Act.put, tkA, tkB, tkC]
 refine tkCall 6 (fun Kt hKt => ?_)
 go_simp
 (go_at_call 39; refine (landNext J lo hi b _ w1 j1.jw (HR.out.grown (undrew_g g1) HB.out.1)).mono ?_; rintro e w2 ⟨q, rfl, o1, o2⟩)
 refine hKt.out _ _ ?_ (fun hT => ?_)
 ·(exact box_keep hHeld (grown_any o2) HNE.out)
 clear hKt Kt hHeld
 have hHeld := hT
 clear hT
 try simp only [Act.put, tkA, tkB, tkC]
 refine tkOp 7 hHeld ?_
 refine wpAnyH_done (by kernel_rfl) ?_ _
 have HX := Lib.hid (And.intro o1 o2)
 have HJ1 := Lib.hid j1
 have HG1 := Lib.hid (grown_tr HGW.out (undrew_g g1))
 clear hHeld o1 o2 j1 g1
 go_wp2_with fail
 go_ret
 exact nd_fin HJ1.out HG1.out HO.out.1 ⟨q, rfl, HX.out.1, HX.out.2⟩ (fun p hp => tv_next HT.out hp HO.out.2)
set_option maxHeartbeats 8000000 in
set_option maxRecDepth 100000 in
theorem node_10 (J : Jd) (w0 : World) (σ : List Value) (k m c : Nat) (nm : ByteArray) (lo hi : Int) (ks : List Int) (K : Option Addr) (w : World) (h : JS J w0 σ w) (hl : Live J k σ w) (hnv : Nv J w0 k ⟨10, nm, lo, hi, ks⟩ K m c) :
  Calls Tryz.prog 24 #[.pointer (some ⟨J.gj, 0, none⟩), .agg #[.int .i64 10, .string nm, .int .i64 lo, .int .i64 hi, .slice K m c]] w (GotNd J w0 k σ w) := by
 obtain ⟨i, b, hK, hb1, hb2, hb3, hoff, hfo⟩ := one_kid h hl hnv rfl rfl
 obtain ⟨W, hW⟩ : ∃ W, w.alloc (.cells #[.int .i64 10, .string nm, .int .i64 lo, .int .i64 hi, .slice K m c] 37) = W := ⟨_, rfl⟩
 have hbW : Below w.heap.size w W := by rw [← hW]; exact (Below.refl _ _).alloc (Nat.le_refl _) _
 have d0 : W.cell? ⟨w.heap.size, 0, none⟩ = some (.int .i64 10) := by rw [← hW]; exact box_cell 0 _ rfl
 have d1 : W.cell? ⟨w.heap.size, 1, none⟩ = some (.string nm) := by rw [← hW]; exact box_cell 1 _ rfl
 have d2 : W.cell? ⟨w.heap.size, 2, none⟩ = some (.int .i64 lo) := by rw [← hW]; exact box_cell 2 _ rfl
 have d3 : W.cell? ⟨w.heap.size, 3, none⟩ = some (.int .i64 hi) := by rw [← hW]; exact box_cell 3 _ rfl
 have d4 : W.cell? ⟨w.heap.size, 4, none⟩ = some (.slice K m c) := by rw [← hW]; exact box_cell 4 _ rfl
 have HJ := Lib.hid (h.later hbW)
 have HGW := Lib.hid (grown_any (o := J.bt) hbW)
 have HNE := Lib.hid (show w.heap.size ≠ J.bt from by have := h.bt0; omega)
 have hn : J.n ≤ 1000 := by have := h.hn; omega
 have HT := Lib.hid h.jw.tn
 have HS := Lib.hid (span_of hnv h.ml rfl)
 have HK := Lib.hid hK
 have HR := Lib.hid (hb3.below hbW)
 have HB := Lib.hid (And.intro hb1 (show b < W.heap.size from Nat.lt_of_lt_of_le hb2 hbW.size))
 have HO := Lib.hid (And.intro hoff hfo)
 clear h hl hnv hK hb1 hb2 hb3 hoff hfo hbW
 go_enter Tryz.func24, Tryz.ntmps24
 go_wp2_with fail
 refine wp_region_held_drew (S := fun V => V.cell? ⟨w.heap.size, 0, none⟩ = some (.int .i64 10) ∧ V.cell? ⟨w.heap.size, 1, none⟩ = some (.string nm) ∧ V.cell? ⟨w.heap.size, 2, none⟩ = some (.int .i64 lo) ∧ V.cell? ⟨w.heap.size, 3, none⟩ = some (.int .i64 hi) ∧ V.cell? ⟨w.heap.size, 4, none⟩ = some (.slice K m c)) (by kernel_rfl) ⟨d0, d1, d2, d3, d4⟩ (fun hHeld => ?_)
 refine tkOp 0 hHeld ?_
 refine tkOp 1 hHeld ?_
 refine tkOp 3 hHeld ?_
 refine tkOp 4 hHeld ?_
 refine tkOp 5 hHeld ?_
 refine tkCall 2 (fun Kt hKt => ?_)
 go_simp
 (go_at_call 36; refine (HK.out _ (HJ.out.later (Below.refl _ _).drew)).mono ?_; rintro e w1 ⟨rfl, j1, g1⟩)
 refine hKt.out _ _ ?_ (fun hT => ?_)
 ·(exact box_keep hHeld g1 HNE.out)
 clear hKt Kt hHeld
 have hHeld := hT
 clear hT
 try simp only [Act.put, tkA, tkB, tkC]
 refine tkCall 6 (fun Kt hKt => ?_)
 go_simp
 (go_at_call 41; refine (landPast J lo hi w1 j1.jw HS.out).mono ?_; rintro e w2 ⟨o, s, t, rfl, hO, hP, b2⟩)
 refine hKt.out _ _ ?_ (fun hT => ?_)
 ·(exact box_keep hHeld (grown_any b2) HNE.out)
 clear hKt Kt hHeld
 have hHeld := hT
 clear hT
 try simp only [Act.put, tkA, tkB, tkC]
 refine tkCall 7 (fun Kt hKt => ?_)
 go_simp
 (go_at_call 40; refine (landSome b o J.n _ s t w2 ((HR.out.grown (undrew_g g1) HB.out.1).below b2) hO.rs (fun p hp => by have := hP p hp; have := this.1; omega) (fun p hp => by have := hP p hp; have := this.2.2.1; omega) hn).mono ?_; rintro e w3 hB; have hB2 := hB; obtain ⟨q, rfl, o1, o2⟩ := hB.after b2)
 refine hKt.out _ _ ?_ (fun hT => ?_)
 ·(exact box_keep hHeld (grown_any (hB2.elim fun _ hB => hB.2.2)) HNE.out)
 clear hKt Kt hHeld
 have hHeld := hT
 clear hT
 try simp only [Act.put, tkA, tkB, tkC]
 refine tkOp 8 hHeld ?_
 refine wpAnyH_done (by kernel_rfl) ?_ _
 have HX := Lib.hid (And.intro o1 o2)
 have HJ1 := Lib.hid j1
 have HP := Lib.hid hP
 have HG1 := Lib.hid (grown_tr HGW.out (undrew_g g1))
 clear hHeld o1 o2 j1 g1 hB hB2 hO hP b2
 go_wp2_with fail
 go_ret
 exact nd_fin HJ1.out HG1.out HO.out.1 ⟨q, rfl, HX.out.1, HX.out.2⟩ (fun p hp => tv_once HT.out hp (HP.out p hp) HO.out.2)
set_option maxHeartbeats 8000000 in
set_option maxRecDepth 100000 in
theorem node_11 (J : Jd) (w0 : World) (σ : List Value) (k m c : Nat) (nm : ByteArray) (lo hi : Int) (ks : List Int) (K : Option Addr) (w : World) (h : JS J w0 σ w) (hl : Live J k σ w) (hnv : Nv J w0 k ⟨11, nm, lo, hi, ks⟩ K m c) :
  Calls Tryz.prog 24 #[.pointer (some ⟨J.gj, 0, none⟩), .agg #[.int .i64 11, .string nm, .int .i64 lo, .int .i64 hi, .slice K m c]] w (GotNd J w0 k σ w) := by
 obtain ⟨i, b, hK, hb1, hb2, hb3, hoff, hfo⟩ := one_kid h hl hnv rfl rfl
 obtain ⟨W, hW⟩ : ∃ W, w.alloc (.cells #[.int .i64 11, .string nm, .int .i64 lo, .int .i64 hi, .slice K m c] 37) = W := ⟨_, rfl⟩
 have hbW : Below w.heap.size w W := by rw [← hW]; exact (Below.refl _ _).alloc (Nat.le_refl _) _
 have d0 : W.cell? ⟨w.heap.size, 0, none⟩ = some (.int .i64 11) := by rw [← hW]; exact box_cell 0 _ rfl
 have d1 : W.cell? ⟨w.heap.size, 1, none⟩ = some (.string nm) := by rw [← hW]; exact box_cell 1 _ rfl
 have d2 : W.cell? ⟨w.heap.size, 2, none⟩ = some (.int .i64 lo) := by rw [← hW]; exact box_cell 2 _ rfl
 have d3 : W.cell? ⟨w.heap.size, 3, none⟩ = some (.int .i64 hi) := by rw [← hW]; exact box_cell 3 _ rfl
 have d4 : W.cell? ⟨w.heap.size, 4, none⟩ = some (.slice K m c) := by rw [← hW]; exact box_cell 4 _ rfl
 have HJ := Lib.hid (h.later hbW)
 have HGW := Lib.hid (grown_any (o := J.bt) hbW)
 have HNE := Lib.hid (show w.heap.size ≠ J.bt from by have := h.bt0; omega)
 have hn : J.n ≤ 1000 := by have := h.hn; omega
 have HT := Lib.hid h.jw.tn
 have HS := Lib.hid (span_of hnv h.ml rfl)
 have HK := Lib.hid hK
 have HR := Lib.hid (hb3.below hbW)
 have HB := Lib.hid (And.intro hb1 (show b < W.heap.size from Nat.lt_of_lt_of_le hb2 hbW.size))
 have HO := Lib.hid (And.intro hoff hfo)
 clear h hl hnv hK hb1 hb2 hb3 hoff hfo hbW
 go_enter Tryz.func24, Tryz.ntmps24
 go_wp2_with fail
 refine wp_region_held_drew (S := fun V => V.cell? ⟨w.heap.size, 0, none⟩ = some (.int .i64 11) ∧ V.cell? ⟨w.heap.size, 1, none⟩ = some (.string nm) ∧ V.cell? ⟨w.heap.size, 2, none⟩ = some (.int .i64 lo) ∧ V.cell? ⟨w.heap.size, 3, none⟩ = some (.int .i64 hi) ∧ V.cell? ⟨w.heap.size, 4, none⟩ = some (.slice K m c)) (by kernel_rfl) ⟨d0, d1, d2, d3, d4⟩ (fun hHeld => ?_)
 refine tkOp 0 hHeld ?_
 refine tkOp 1 hHeld ?_
 refine tkOp 3 hHeld ?_
 refine tkOp 4 hHeld ?_
 refine tkOp 5 hHeld ?_
 refine tkCall 2 (fun Kt hKt => ?_)
 go_simp
 (go_at_call 36; refine (HK.out _ (HJ.out.later (Below.refl _ _).drew)).mono ?_; rintro e w1 ⟨rfl, j1, g1⟩)
 refine hKt.out _ _ ?_ (fun hT => ?_)
 ·(exact box_keep hHeld g1 HNE.out)
 clear hKt Kt hHeld
 have hHeld := hT
 clear hT
 try simp only [Act.put, tkA, tkB, tkC]
 refine tkCall 6 (fun Kt hKt => ?_)
 go_simp
 (go_at_call 41; refine (landPast J lo hi w1 j1.jw HS.out).mono ?_; rintro e w2 ⟨o, s, t, rfl, hO, hP, b2⟩)
 refine hKt.out _ _ ?_ (fun hT => ?_)
 ·(exact box_keep hHeld (grown_any b2) HNE.out)
 clear hKt Kt hHeld
 have hHeld := hT
 clear hT
 try simp only [Act.put, tkA, tkB, tkC]
 refine tkCall 7 (fun Kt hKt => ?_)
 go_simp
 (go_at_call 42; refine (landAllB b o J.n _ s t w2 ((HR.out.grown (undrew_g g1) HB.out.1).below b2) hO.rs (fun p hp => by have := hP p hp; have := this.1; omega) (fun p hp => by have := hP p hp; have := this.2.2.1; omega) hn).mono ?_; rintro e w3 hB; have hB2 := hB; obtain ⟨q, rfl, o1, o2⟩ := hB.after b2)
 refine hKt.out _ _ ?_ (fun hT => ?_)
 ·(exact box_keep hHeld (grown_any (hB2.elim fun _ hB => hB.2.2)) HNE.out)
 clear hKt Kt hHeld
 have hHeld := hT
 clear hT
 try simp only [Act.put, tkA, tkB, tkC]
 refine tkOp 8 hHeld ?_
 refine wpAnyH_done (by kernel_rfl) ?_ _
 have HX := Lib.hid (And.intro o1 o2)
 have HJ1 := Lib.hid j1
 have HP := Lib.hid hP
 have HG1 := Lib.hid (grown_tr HGW.out (undrew_g g1))
 clear hHeld o1 o2 j1 g1 hB hB2 hO hP b2
 go_wp2_with fail
 go_ret
 exact nd_fin HJ1.out HG1.out HO.out.1 ⟨q, rfl, HX.out.1, HX.out.2⟩ (fun p hp => tv_hist HT.out hp (HP.out p hp) HO.out.2)
set_option maxHeartbeats 8000000 in
set_option maxRecDepth 100000 in
theorem node_12 (J : Jd) (w0 : World) (σ : List Value) (k m c : Nat) (nm : ByteArray) (lo hi : Int) (ks : List Int) (K : Option Addr) (w : World) (h : JS J w0 σ w) (hl : Live J k σ w) (hnv : Nv J w0 k ⟨12, nm, lo, hi, ks⟩ K m c) :
  Calls Tryz.prog 24 #[.pointer (some ⟨J.gj, 0, none⟩), .agg #[.int .i64 12, .string nm, .int .i64 lo, .int .i64 hi, .slice K m c]] w (GotNd J w0 k σ w) := by
 obtain ⟨i, b, hK, hb1, hb2, hb3, hoff, hfo⟩ := one_kid h hl hnv rfl rfl
 obtain ⟨W, hW⟩ : ∃ W, w.alloc (.cells #[.int .i64 12, .string nm, .int .i64 lo, .int .i64 hi, .slice K m c] 37) = W := ⟨_, rfl⟩
 have hbW : Below w.heap.size w W := by rw [← hW]; exact (Below.refl _ _).alloc (Nat.le_refl _) _
 have d0 : W.cell? ⟨w.heap.size, 0, none⟩ = some (.int .i64 12) := by rw [← hW]; exact box_cell 0 _ rfl
 have d1 : W.cell? ⟨w.heap.size, 1, none⟩ = some (.string nm) := by rw [← hW]; exact box_cell 1 _ rfl
 have d2 : W.cell? ⟨w.heap.size, 2, none⟩ = some (.int .i64 lo) := by rw [← hW]; exact box_cell 2 _ rfl
 have d3 : W.cell? ⟨w.heap.size, 3, none⟩ = some (.int .i64 hi) := by rw [← hW]; exact box_cell 3 _ rfl
 have d4 : W.cell? ⟨w.heap.size, 4, none⟩ = some (.slice K m c) := by rw [← hW]; exact box_cell 4 _ rfl
 have HJ := Lib.hid (h.later hbW)
 have HGW := Lib.hid (grown_any (o := J.bt) hbW)
 have HNE := Lib.hid (show w.heap.size ≠ J.bt from by have := h.bt0; omega)
 have hn : J.n ≤ 1000 := by have := h.hn; omega
 have HT := Lib.hid h.jw.tn
 have HS := Lib.hid (span_of hnv h.ml rfl)
 have HK := Lib.hid hK
 have HR := Lib.hid (hb3.below hbW)
 have HB := Lib.hid (And.intro hb1 (show b < W.heap.size from Nat.lt_of_lt_of_le hb2 hbW.size))
 have HO := Lib.hid (And.intro hoff hfo)
 clear h hl hnv hK hb1 hb2 hb3 hoff hfo hbW
 go_enter Tryz.func24, Tryz.ntmps24
 go_wp2_with fail
 refine wp_region_held_drew (S := fun V => V.cell? ⟨w.heap.size, 0, none⟩ = some (.int .i64 12) ∧ V.cell? ⟨w.heap.size, 1, none⟩ = some (.string nm) ∧ V.cell? ⟨w.heap.size, 2, none⟩ = some (.int .i64 lo) ∧ V.cell? ⟨w.heap.size, 3, none⟩ = some (.int .i64 hi) ∧ V.cell? ⟨w.heap.size, 4, none⟩ = some (.slice K m c)) (by kernel_rfl) ⟨d0, d1, d2, d3, d4⟩ (fun hHeld => ?_)
 refine tkOp 0 hHeld ?_
 refine tkOp 1 hHeld ?_
 refine tkOp 3 hHeld ?_
 refine tkOp 4 hHeld ?_
 refine tkOp 5 hHeld ?_
 refine tkCall 2 (fun Kt hKt => ?_)
 go_simp
 (go_at_call 36; refine (HK.out _ (HJ.out.later (Below.refl _ _).drew)).mono ?_; rintro e w1 ⟨rfl, j1, g1⟩)
 refine hKt.out _ _ ?_ (fun hT => ?_)
 ·(exact box_keep hHeld g1 HNE.out)
 clear hKt Kt hHeld
 have hHeld := hT
 clear hT
 try simp only [Act.put, tkA, tkB, tkC]
 refine tkCall 6 (fun Kt hKt => ?_)
 go_simp
 (go_at_call 43; refine (landFuture J lo hi w1 j1.jw HS.out).mono ?_; rintro e w2 ⟨o, s, t, rfl, hO, hP, b2⟩)
 refine hKt.out _ _ ?_ (fun hT => ?_)
 ·(exact box_keep hHeld (grown_any b2) HNE.out)
 clear hKt Kt hHeld
 have hHeld := hT
 clear hT
 try simp only [Act.put, tkA, tkB, tkC]
 refine tkCall 7 (fun Kt hKt => ?_)
 go_simp
 (go_at_call 40; refine (landSome b o J.n _ s t w2 ((HR.out.grown (undrew_g g1) HB.out.1).below b2) hO.rs (fun p hp => by have := hP p hp; have h1 := this.2.1; have h2 := this.2.2.2.1; rw [HT.out] at h2; omega) (fun p hp => by have := hP p hp; have h2 := this.2.2.2.1; rw [HT.out] at h2; omega) hn).mono ?_; rintro e w3 hB; have hB2 := hB; obtain ⟨q, rfl, o1, o2⟩ := hB.after b2)
 refine hKt.out _ _ ?_ (fun hT => ?_)
 ·(exact box_keep hHeld (grown_any (hB2.elim fun _ hB => hB.2.2)) HNE.out)
 clear hKt Kt hHeld
 have hHeld := hT
 clear hT
 try simp only [Act.put, tkA, tkB, tkC]
 refine tkOp 8 hHeld ?_
 refine wpAnyH_done (by kernel_rfl) ?_ _
 have HX := Lib.hid (And.intro o1 o2)
 have HJ1 := Lib.hid j1
 have HP := Lib.hid hP
 have HG1 := Lib.hid (grown_tr HGW.out (undrew_g g1))
 clear hHeld o1 o2 j1 g1 hB hB2 hO hP b2
 go_wp2_with fail
 go_ret
 exact nd_fin HJ1.out HG1.out HO.out.1 ⟨q, rfl, HX.out.1, HX.out.2⟩ (fun p hp => tv_some HT.out hp (HP.out p hp) HO.out.2)
set_option maxHeartbeats 8000000 in
set_option maxRecDepth 100000 in
theorem node_13 (J : Jd) (w0 : World) (σ : List Value) (k m c : Nat) (nm : ByteArray) (lo hi : Int) (ks : List Int) (K : Option Addr) (w : World) (h : JS J w0 σ w) (hl : Live J k σ w) (hnv : Nv J w0 k ⟨13, nm, lo, hi, ks⟩ K m c) :
  Calls Tryz.prog 24 #[.pointer (some ⟨J.gj, 0, none⟩), .agg #[.int .i64 13, .string nm, .int .i64 lo, .int .i64 hi, .slice K m c]] w (GotNd J w0 k σ w) := by
 obtain ⟨i, b, hK, hb1, hb2, hb3, hoff, hfo⟩ := one_kid h hl hnv rfl rfl
 obtain ⟨W, hW⟩ : ∃ W, w.alloc (.cells #[.int .i64 13, .string nm, .int .i64 lo, .int .i64 hi, .slice K m c] 37) = W := ⟨_, rfl⟩
 have hbW : Below w.heap.size w W := by rw [← hW]; exact (Below.refl _ _).alloc (Nat.le_refl _) _
 have d0 : W.cell? ⟨w.heap.size, 0, none⟩ = some (.int .i64 13) := by rw [← hW]; exact box_cell 0 _ rfl
 have d1 : W.cell? ⟨w.heap.size, 1, none⟩ = some (.string nm) := by rw [← hW]; exact box_cell 1 _ rfl
 have d2 : W.cell? ⟨w.heap.size, 2, none⟩ = some (.int .i64 lo) := by rw [← hW]; exact box_cell 2 _ rfl
 have d3 : W.cell? ⟨w.heap.size, 3, none⟩ = some (.int .i64 hi) := by rw [← hW]; exact box_cell 3 _ rfl
 have d4 : W.cell? ⟨w.heap.size, 4, none⟩ = some (.slice K m c) := by rw [← hW]; exact box_cell 4 _ rfl
 have HJ := Lib.hid (h.later hbW)
 have HGW := Lib.hid (grown_any (o := J.bt) hbW)
 have HNE := Lib.hid (show w.heap.size ≠ J.bt from by have := h.bt0; omega)
 have hn : J.n ≤ 1000 := by have := h.hn; omega
 have HT := Lib.hid h.jw.tn
 have HS := Lib.hid (span_of hnv h.ml rfl)
 have HK := Lib.hid hK
 have HR := Lib.hid (hb3.below hbW)
 have HB := Lib.hid (And.intro hb1 (show b < W.heap.size from Nat.lt_of_lt_of_le hb2 hbW.size))
 have HO := Lib.hid (And.intro hoff hfo)
 clear h hl hnv hK hb1 hb2 hb3 hoff hfo hbW
 go_enter Tryz.func24, Tryz.ntmps24
 go_wp2_with fail
 refine wp_region_held_drew (S := fun V => V.cell? ⟨w.heap.size, 0, none⟩ = some (.int .i64 13) ∧ V.cell? ⟨w.heap.size, 1, none⟩ = some (.string nm) ∧ V.cell? ⟨w.heap.size, 2, none⟩ = some (.int .i64 lo) ∧ V.cell? ⟨w.heap.size, 3, none⟩ = some (.int .i64 hi) ∧ V.cell? ⟨w.heap.size, 4, none⟩ = some (.slice K m c)) (by kernel_rfl) ⟨d0, d1, d2, d3, d4⟩ (fun hHeld => ?_)
 refine tkOp 0 hHeld ?_
 refine tkOp 1 hHeld ?_
 refine tkOp 3 hHeld ?_
 refine tkOp 4 hHeld ?_
 refine tkOp 5 hHeld ?_
 refine tkCall 2 (fun Kt hKt => ?_)
 go_simp
 (go_at_call 36; refine (HK.out _ (HJ.out.later (Below.refl _ _).drew)).mono ?_; rintro e w1 ⟨rfl, j1, g1⟩)
 refine hKt.out _ _ ?_ (fun hT => ?_)
 ·(exact box_keep hHeld g1 HNE.out)
 clear hKt Kt hHeld
 have hHeld := hT
 clear hT
 try simp only [Act.put, tkA, tkB, tkC]
 refine tkCall 6 (fun Kt hKt => ?_)
 go_simp
 (go_at_call 43; refine (landFuture J lo hi w1 j1.jw HS.out).mono ?_; rintro e w2 ⟨o, s, t, rfl, hO, hP, b2⟩)
 refine hKt.out _ _ ?_ (fun hT => ?_)
 ·(exact box_keep hHeld (grown_any b2) HNE.out)
 clear hKt Kt hHeld
 have hHeld := hT
 clear hT
 try simp only [Act.put, tkA, tkB, tkC]
 refine tkCall 7 (fun Kt hKt => ?_)
 go_simp
 (go_at_call 42; refine (landAllB b o J.n _ s t w2 ((HR.out.grown (undrew_g g1) HB.out.1).below b2) hO.rs (fun p hp => by have := hP p hp; have h1 := this.2.1; have h2 := this.2.2.2.1; rw [HT.out] at h2; omega) (fun p hp => by have := hP p hp; have h2 := this.2.2.2.1; rw [HT.out] at h2; omega) hn).mono ?_; rintro e w3 hB; have hB2 := hB; obtain ⟨q, rfl, o1, o2⟩ := hB.after b2)
 refine hKt.out _ _ ?_ (fun hT => ?_)
 ·(exact box_keep hHeld (grown_any (hB2.elim fun _ hB => hB.2.2)) HNE.out)
 clear hKt Kt hHeld
 have hHeld := hT
 clear hT
 try simp only [Act.put, tkA, tkB, tkC]
 refine tkOp 8 hHeld ?_
 refine wpAnyH_done (by kernel_rfl) ?_ _
 have HX := Lib.hid (And.intro o1 o2)
 have HJ1 := Lib.hid j1
 have HP := Lib.hid hP
 have HG1 := Lib.hid (grown_tr HGW.out (undrew_g g1))
 clear hHeld o1 o2 j1 g1 hB hB2 hO hP b2
 go_wp2_with fail
 go_ret
 exact nd_fin HJ1.out HG1.out HO.out.1 ⟨q, rfl, HX.out.1, HX.out.2⟩ (fun p hp => tv_all HT.out hp (HP.out p hp) HO.out.2)
set_option maxHeartbeats 8000000 in
set_option maxRecDepth 100000 in
theorem node_14 (J : Jd) (w0 : World) (σ : List Value) (k m c : Nat) (nm : ByteArray) (lo hi : Int) (ks : List Int) (K : Option Addr) (w : World) (h : JS J w0 σ w) (hl : Live J k σ w) (hnv : Nv J w0 k ⟨14, nm, lo, hi, ks⟩ K m c) :
  Calls Tryz.prog 24 #[.pointer (some ⟨J.gj, 0, none⟩), .agg #[.int .i64 14, .string nm, .int .i64 lo, .int .i64 hi, .slice K m c]] w (GotNd J w0 k σ w) := by
 obtain ⟨i, j, b1, b2, hK0, hK1, hL1, hL0, ⟨x1, x2, x3⟩, ⟨y1, y2, y3⟩, ho1, ho2, hfo⟩ := two_kids h hl hnv rfl rfl
 obtain ⟨W, hW⟩ : ∃ W, w.alloc (.cells #[.int .i64 14, .string nm, .int .i64 lo, .int .i64 hi, .slice K m c] 37) = W := ⟨_, rfl⟩
 have hbW : Below w.heap.size w W := by rw [← hW]; exact (Below.refl _ _).alloc (Nat.le_refl _) _
 have d0 : W.cell? ⟨w.heap.size, 0, none⟩ = some (.int .i64 14) := by rw [← hW]; exact box_cell 0 _ rfl
 have d1 : W.cell? ⟨w.heap.size, 1, none⟩ = some (.string nm) := by rw [← hW]; exact box_cell 1 _ rfl
 have d2 : W.cell? ⟨w.heap.size, 2, none⟩ = some (.int .i64 lo) := by rw [← hW]; exact box_cell 2 _ rfl
 have d3 : W.cell? ⟨w.heap.size, 3, none⟩ = some (.int .i64 hi) := by rw [← hW]; exact box_cell 3 _ rfl
 have d4 : W.cell? ⟨w.heap.size, 4, none⟩ = some (.slice K m c) := by rw [← hW]; exact box_cell 4 _ rfl
 have HJ := Lib.hid (h.later hbW)
 have HGW := Lib.hid (grown_any (o := J.bt) hbW)
 have HNE := Lib.hid (show w.heap.size ≠ J.bt from by have := h.bt0; omega)
 have hn : J.n ≤ 1000 := by have := h.hn; omega
 have HT := Lib.hid h.jw.tn
 have HS := Lib.hid (span_of hnv h.ml rfl)
 have HK0 := Lib.hid hK0
 have HK1 := Lib.hid hK1
 have HL0 := Lib.hid hL0
 have HL1 := Lib.hid hL1
 have HR1 := Lib.hid (x3.below hbW)
 have HR2 := Lib.hid (y3.below hbW)
 have HB := Lib.hid (And.intro x1 (And.intro y1 (And.intro (show b1 < W.heap.size from Nat.lt_of_lt_of_le x2 hbW.size) (show b2 < W.heap.size from Nat.lt_of_lt_of_le y2 hbW.size))))
 have HO := Lib.hid (And.intro ho2 hfo)
 clear h hl hnv hK0 hK1 hL0 hL1 x1 x2 x3 y1 y2 y3 ho1 ho2 hfo hbW
 go_enter Tryz.func24, Tryz.ntmps24
 go_wp2_with fail
 refine wp_region_held_drew (S := fun V => V.cell? ⟨w.heap.size, 0, none⟩ = some (.int .i64 14) ∧ V.cell? ⟨w.heap.size, 1, none⟩ = some (.string nm) ∧ V.cell? ⟨w.heap.size, 2, none⟩ = some (.int .i64 lo) ∧ V.cell? ⟨w.heap.size, 3, none⟩ = some (.int .i64 hi) ∧ V.cell? ⟨w.heap.size, 4, none⟩ = some (.slice K m c)) (by kernel_rfl) ⟨d0, d1, d2, d3, d4⟩ (fun hHeld => ?_)
 refine tkOp 0 hHeld ?_
 refine tkOp 1 hHeld ?_
 refine tkOp 3 hHeld ?_
 refine tkOp 4 hHeld ?_
 refine tkOp 6 hHeld ?_
 refine tkOp 7 hHeld ?_
 refine tkOp 8 hHeld ?_
 refine tkCall 2 (fun Kt hKt => ?_)
 go_simp
 (go_at_call 36; refine (HL1.out _ (HJ.out.later (Below.refl _ _).drew)).mono ?_; rintro e w1 ⟨rfl, j1, g1⟩)
 refine hKt.out _ _ ?_ (fun hT => ?_)
 ·(exact box_keep hHeld g1 HNE.out)
 clear hKt Kt hHeld
 have hHeld := hT
 clear hT
 try simp only [Act.put, tkA, tkB, tkC]
 refine tkCall 5 (fun Kt hKt => ?_)
 go_simp
 (go_at_call 36; refine (HL0.out _ j1).mono ?_; rintro e w2 ⟨rfl, j2, g2⟩)
 refine hKt.out _ _ ?_ (fun hT => ?_)
 ·(exact box_keep hHeld g2 HNE.out)
 clear hKt Kt hHeld
 have hHeld := hT
 clear hT
 try simp only [Act.put, tkA, tkB, tkC]
 refine tkCall 9 (fun Kt hKt => ?_)
 go_simp
 (go_at_call 41; refine (landPast J lo hi w2 j2.jw HS.out).mono ?_; rintro e w3 ⟨o, s, t, rfl, hO, hP, b3⟩)
 refine hKt.out _ _ ?_ (fun hT => ?_)
 ·(exact box_keep hHeld (grown_any b3) HNE.out)
 clear hKt Kt hHeld
 have hHeld := hT
 clear hT
 try simp only [Act.put, tkA, tkB, tkC]
 refine tkCall 10 (fun Kt hKt => ?_)
 go_simp
 (go_at_call 44; refine (landSince b1 o J.n w2.heap.size _ s t w3 (((HR1.out.grown (undrew_g g1) HB.out.1).grown g2 HB.out.1).below b3) hO (show b1 ≠ o from by have := hO.lt.1; have := HB.out.2.2.1; have := (undrew_g g1).size; have := g2.size; omega) (fun p hp => by have := hP p hp; have := this.1; omega) hn).mono ?_; rintro e w4 ⟨rfl, hO4, g4⟩)
 refine hKt.out _ _ ?_ (fun hT => ?_)
 ·(exact box_keep hHeld g4 (show w.heap.size ≠ o from by have := hO.lt.1; have := World.block_lt_of_cell? _ _ d0; have := (undrew_g g1).size; have := g2.size; have h9 : w.heap.size < W.heap.size := World.block_lt_of_cell? _ _ d0; omega))
 clear hKt Kt hHeld
 have hHeld := hT
 clear hT
 try simp only [Act.put, tkA, tkB, tkC]
 have b4 : Below w2.heap.size w2 w4 := b3.trans (below_of_grown g4 hO.lt.1 b3.size)
 refine tkCall 11 (fun Kt hKt => ?_)
 go_simp
 (go_at_call 40; refine (landSome b2 o J.n _ _ t w4 ((((HR2.out.grown (undrew_g g1) HB.out.2.1).grown g2 HB.out.2.1).below b3).grown g4 (show b2 ≠ o from by have := hO.lt.1; have := HB.out.2.2.2; have := (undrew_g g1).size; have := g2.size; omega)) hO4.rs (fun p hp => by have h1 := (hP p hp).1; have := lastN_le (tvB J i) p; show max (s p) (lastN (tvB J i) p) ≤ J.n; omega) (fun p hp => by have := hP p hp; have := this.2.2.1; omega) hn).mono ?_; rintro e w5 hB; have hB2 := hB; obtain ⟨q, rfl, o1, o2⟩ := hB.after b4)
 refine hKt.out _ _ ?_ (fun hT => ?_)
 ·(exact box_keep hHeld (grown_any (hB2.elim fun _ hB => hB.2.2)) HNE.out)
 clear hKt Kt hHeld
 have hHeld := hT
 clear hT
 try simp only [Act.put, tkA, tkB, tkC]
 refine tkOp 12 hHeld ?_
 refine wpAnyH_done (by kernel_rfl) ?_ _
 have HX := Lib.hid (And.intro o1 o2)
 have HJ2 := Lib.hid j2
 have HP := Lib.hid hP
 have HG2 := Lib.hid (grown_tr (grown_tr HGW.out (undrew_g g1)) g2)
 clear hHeld o1 o2 j1 j2 g1 g2 g4 hB hB2 hO hO4 hP b3 b4
 go_wp2_with fail
 go_ret
 exact nd_fin HJ2.out HG2.out HO.out.1 ⟨q, rfl, HX.out.1, HX.out.2⟩ (fun p hp => tv_since HT.out hp (HP.out p hp) HO.out.2)
set_option maxHeartbeats 8000000 in
set_option maxRecDepth 100000 in
theorem node_15 (J : Jd) (w0 : World) (σ : List Value) (k m c : Nat) (nm : ByteArray) (lo hi : Int) (ks : List Int) (K : Option Addr) (w : World) (h : JS J w0 σ w) (hl : Live J k σ w) (hnv : Nv J w0 k ⟨15, nm, lo, hi, ks⟩ K m c) :
  Calls Tryz.prog 24 #[.pointer (some ⟨J.gj, 0, none⟩), .agg #[.int .i64 15, .string nm, .int .i64 lo, .int .i64 hi, .slice K m c]] w (GotNd J w0 k σ w) := by
 obtain ⟨i, j, b1, b2, hK0, hK1, hL1, hL0, ⟨x1, x2, x3⟩, ⟨y1, y2, y3⟩, ho1, ho2, hfo⟩ := two_kids h hl hnv rfl rfl
 obtain ⟨W, hW⟩ : ∃ W, w.alloc (.cells #[.int .i64 15, .string nm, .int .i64 lo, .int .i64 hi, .slice K m c] 37) = W := ⟨_, rfl⟩
 have hbW : Below w.heap.size w W := by rw [← hW]; exact (Below.refl _ _).alloc (Nat.le_refl _) _
 have d0 : W.cell? ⟨w.heap.size, 0, none⟩ = some (.int .i64 15) := by rw [← hW]; exact box_cell 0 _ rfl
 have d1 : W.cell? ⟨w.heap.size, 1, none⟩ = some (.string nm) := by rw [← hW]; exact box_cell 1 _ rfl
 have d2 : W.cell? ⟨w.heap.size, 2, none⟩ = some (.int .i64 lo) := by rw [← hW]; exact box_cell 2 _ rfl
 have d3 : W.cell? ⟨w.heap.size, 3, none⟩ = some (.int .i64 hi) := by rw [← hW]; exact box_cell 3 _ rfl
 have d4 : W.cell? ⟨w.heap.size, 4, none⟩ = some (.slice K m c) := by rw [← hW]; exact box_cell 4 _ rfl
 have HJ := Lib.hid (h.later hbW)
 have HGW := Lib.hid (grown_any (o := J.bt) hbW)
 have HNE := Lib.hid (show w.heap.size ≠ J.bt from by have := h.bt0; omega)
 have hn : J.n ≤ 1000 := by have := h.hn; omega
 have HT := Lib.hid h.jw.tn
 have HS := Lib.hid (span_of hnv h.ml rfl)
 have HK0 := Lib.hid hK0
 have HK1 := Lib.hid hK1
 have HL0 := Lib.hid hL0
 have HL1 := Lib.hid hL1
 have HR1 := Lib.hid (x3.below hbW)
 have HR2 := Lib.hid (y3.below hbW)
 have HB := Lib.hid (And.intro x1 (And.intro y1 (And.intro (show b1 < W.heap.size from Nat.lt_of_lt_of_le x2 hbW.size) (show b2 < W.heap.size from Nat.lt_of_lt_of_le y2 hbW.size))))
 have HO := Lib.hid (And.intro ho2 hfo)
 clear h hl hnv hK0 hK1 hL0 hL1 x1 x2 x3 y1 y2 y3 ho1 ho2 hfo hbW
 go_enter Tryz.func24, Tryz.ntmps24
 go_wp2_with fail
 refine wp_region_held_drew (S := fun V => V.cell? ⟨w.heap.size, 0, none⟩ = some (.int .i64 15) ∧ V.cell? ⟨w.heap.size, 1, none⟩ = some (.string nm) ∧ V.cell? ⟨w.heap.size, 2, none⟩ = some (.int .i64 lo) ∧ V.cell? ⟨w.heap.size, 3, none⟩ = some (.int .i64 hi) ∧ V.cell? ⟨w.heap.size, 4, none⟩ = some (.slice K m c)) (by kernel_rfl) ⟨d0, d1, d2, d3, d4⟩ (fun hHeld => ?_)
 refine tkOp 0 hHeld ?_
 refine tkOp 1 hHeld ?_
 refine tkOp 3 hHeld ?_
 refine tkOp 4 hHeld ?_
 refine tkOp 6 hHeld ?_
 refine tkOp 7 hHeld ?_
 refine tkOp 8 hHeld ?_
 refine tkCall 2 (fun Kt hKt => ?_)
 go_simp
 (go_at_call 36; refine (HL1.out _ (HJ.out.later (Below.refl _ _).drew)).mono ?_; rintro e w1 ⟨rfl, j1, g1⟩)
 refine hKt.out _ _ ?_ (fun hT => ?_)
 ·(exact box_keep hHeld g1 HNE.out)
 clear hKt Kt hHeld
 have hHeld := hT
 clear hT
 try simp only [Act.put, tkA, tkB, tkC]
 refine tkCall 5 (fun Kt hKt => ?_)
 go_simp
 (go_at_call 36; refine (HL0.out _ j1).mono ?_; rintro e w2 ⟨rfl, j2, g2⟩)
 refine hKt.out _ _ ?_ (fun hT => ?_)
 ·(exact box_keep hHeld g2 HNE.out)
 clear hKt Kt hHeld
 have hHeld := hT
 clear hT
 try simp only [Act.put, tkA, tkB, tkC]
 refine tkCall 9 (fun Kt hKt => ?_)
 go_simp
 (go_at_call 43; refine (landFuture J lo hi w2 j2.jw HS.out).mono ?_; rintro e w3 ⟨o, s, t, rfl, hO, hP, b3⟩)
 refine hKt.out _ _ ?_ (fun hT => ?_)
 ·(exact box_keep hHeld (grown_any b3) HNE.out)
 clear hKt Kt hHeld
 have hHeld := hT
 clear hT
 try simp only [Act.put, tkA, tkB, tkC]
 refine tkCall 10 (fun Kt hKt => ?_)
 go_simp
 (go_at_call 45; refine (landUntil b1 o J.n w2.heap.size _ s t w3 (((HR1.out.grown (undrew_g g1) HB.out.1).grown g2 HB.out.1).below b3) hO (show b1 ≠ o from by have := hO.lt.1; have := HB.out.2.2.1; have := (undrew_g g1).size; have := g2.size; omega) (fun p hp => by have := hP p hp; have h2 := this.2.2.2.1; rw [HT.out] at h2; omega) hn).mono ?_; rintro e w4 ⟨rfl, hO4, g4⟩)
 refine hKt.out _ _ ?_ (fun hT => ?_)
 ·(exact box_keep hHeld g4 (show w.heap.size ≠ o from by have := hO.lt.1; have := World.block_lt_of_cell? _ _ d0; have := (undrew_g g1).size; have := g2.size; have h9 : w.heap.size < W.heap.size := World.block_lt_of_cell? _ _ d0; omega))
 clear hKt Kt hHeld
 have hHeld := hT
 clear hT
 try simp only [Act.put, tkA, tkB, tkC]
 have b4 : Below w2.heap.size w2 w4 := b3.trans (below_of_grown g4 hO.lt.1 b3.size)
 refine tkCall 11 (fun Kt hKt => ?_)
 go_simp
 (go_at_call 40; refine (landSome b2 o J.n _ s _ w4 ((((HR2.out.grown (undrew_g g1) HB.out.2.1).grown g2 HB.out.2.1).below b3).grown g4 (show b2 ≠ o from by have := hO.lt.1; have := HB.out.2.2.2; have := (undrew_g g1).size; have := g2.size; omega)) hO4.rs (fun p hp => by have := hP p hp; have h1 := this.2.1; have h2 := this.2.2.2.1; rw [HT.out] at h2; omega) (fun p hp => by have := hP p hp; have h2 := this.2.2.2.1; rw [HT.out] at h2; show min (t p) (nextU (tvB J i) J.n (J.n - p)) ≤ J.n; omega) hn).mono ?_; rintro e w5 hB; have hB2 := hB; obtain ⟨q, rfl, o1, o2⟩ := hB.after b4)
 refine hKt.out _ _ ?_ (fun hT => ?_)
 ·(exact box_keep hHeld (grown_any (hB2.elim fun _ hB => hB.2.2)) HNE.out)
 clear hKt Kt hHeld
 have hHeld := hT
 clear hT
 try simp only [Act.put, tkA, tkB, tkC]
 refine tkOp 12 hHeld ?_
 refine wpAnyH_done (by kernel_rfl) ?_ _
 have HX := Lib.hid (And.intro o1 o2)
 have HJ2 := Lib.hid j2
 have HP := Lib.hid hP
 have HG2 := Lib.hid (grown_tr (grown_tr HGW.out (undrew_g g1)) g2)
 clear hHeld o1 o2 j1 j2 g1 g2 g4 hB hB2 hO hO4 hP b3 b4
 go_wp2_with fail
 go_ret
 exact nd_fin HJ2.out HG2.out HO.out.1 ⟨q, rfl, HX.out.1, HX.out.2⟩ (fun p hp => tv_until HT.out hp (HP.out p hp) HO.out.2)
set_option maxHeartbeats 8000000 in
set_option maxRecDepth 100000 in
theorem node_19 (J : Jd) (w0 : World) (σ : List Value) (k m c : Nat) (nm : ByteArray) (lo hi : Int) (ks : List Int) (K : Option Addr) (w : World) (h : JS J w0 σ w) (hl : Live J k σ w) (hnv : Nv J w0 k ⟨19, nm, lo, hi, ks⟩ K m c) :
  Calls Tryz.prog 24 #[.pointer (some ⟨J.gj, 0, none⟩), .agg #[.int .i64 19, .string nm, .int .i64 lo, .int .i64 hi, .slice K m c]] w (GotNd J w0 k σ w) := by
 obtain ⟨i, b, hK, hb1, hb2, hb3, hoff, hfo, hob⟩ := one_kidO h hl hnv rfl rfl
 obtain ⟨W, hW⟩ : ∃ W, w.alloc (.cells #[.int .i64 19, .string nm, .int .i64 lo, .int .i64 hi, .slice K m c] 37) = W := ⟨_, rfl⟩
 have hbW : Below w.heap.size w W := by rw [← hW]; exact (Below.refl _ _).alloc (Nat.le_refl _) _
 have d0 : W.cell? ⟨w.heap.size, 0, none⟩ = some (.int .i64 19) := by rw [← hW]; exact box_cell 0 _ rfl
 have d1 : W.cell? ⟨w.heap.size, 1, none⟩ = some (.string nm) := by rw [← hW]; exact box_cell 1 _ rfl
 have d2 : W.cell? ⟨w.heap.size, 2, none⟩ = some (.int .i64 lo) := by rw [← hW]; exact box_cell 2 _ rfl
 have d3 : W.cell? ⟨w.heap.size, 3, none⟩ = some (.int .i64 hi) := by rw [← hW]; exact box_cell 3 _ rfl
 have d4 : W.cell? ⟨w.heap.size, 4, none⟩ = some (.slice K m c) := by rw [← hW]; exact box_cell 4 _ rfl
 have HJ := Lib.hid (h.later hbW)
 have HGW := Lib.hid (grown_any (o := J.bt) hbW)
 have HNE := Lib.hid (show w.heap.size ≠ J.bt from by have := h.bt0; omega)
 have hn : J.n ≤ 1000 := by have := h.hn; omega
 have HT := Lib.hid h.jw.tn
 have HK := Lib.hid hK
 have HR := Lib.hid (hb3.below hbW)
 have HB := Lib.hid (And.intro hb1 (show b < W.heap.size from Nat.lt_of_lt_of_le hb2 hbW.size))
 have HO := Lib.hid (And.intro hoff hfo)
 have HOB := Lib.hid (hob.below hbW)
 clear h hl hnv hK hb1 hb2 hb3 hoff hfo hob hbW
 go_enter Tryz.func24, Tryz.ntmps24
 go_wp2_with fail
 refine (HK.out W HJ.out).mono ?_
 rintro e w1 ⟨rfl, j1, g1⟩
 have HJ1 := Lib.hid j1
 have HG1 := Lib.hid (grown_tr HGW.out g1)
 have HN := Lib.hid (And.intro (HR.out.grown g1 HB.out.1) (And.intro (show b < w1.heap.size from Nat.lt_of_lt_of_le HB.out.2 g1.size) (HOB.out.same (g1.block b HB.out.2 (fun e => HB.out.1 (by injection e))))))
 clear j1 g1
 go_wp2_with fail
 go_ret
 exact ⟨_, _, _, _, rfl, HJ1.out, HG1.out, HO.out.1, fun _ => ⟨b, rfl, HB.out.1, HN.out.2.1, fun p hp => by rw [tv_test HT.out hp HO.out.2]; exact HN.out.1 p hp, HN.out.2.2.congr (fun p hp => (tv_test HT.out hp HO.out.2).symm)⟩⟩
set_option maxHeartbeats 8000000 in
set_option maxRecDepth 100000 in
theorem node_18 (J : Jd) (w0 : World) (σ : List Value) (k m c : Nat) (nm : ByteArray) (lo hi : Int) (ks : List Int) (K : Option Addr) (w : World) (h : JS J w0 σ w) (_hl : Live J k σ w) (hnv : Nv J w0 k ⟨18, nm, lo, hi, ks⟩ K m c) :
  Calls Tryz.prog 24 #[.pointer (some ⟨J.gj, 0, none⟩), .agg #[.int .i64 18, .string nm, .int .i64 lo, .int .i64 hi, .slice K m c]] w (GotNd J w0 k σ w) := by
 obtain ⟨W, hW⟩ : ∃ W, w.alloc (.cells #[.int .i64 18, .string nm, .int .i64 lo, .int .i64 hi, .slice K m c] 37) = W := ⟨_, rfl⟩
 have hbW : Below w.heap.size w W := by rw [← hW]; exact (Below.refl _ _).alloc (Nat.le_refl _) _
 have d0 : W.cell? ⟨w.heap.size, 0, none⟩ = some (.int .i64 18) := by rw [← hW]; exact box_cell 0 _ rfl
 have d1 : W.cell? ⟨w.heap.size, 1, none⟩ = some (.string nm) := by rw [← hW]; exact box_cell 1 _ rfl
 have d2 : W.cell? ⟨w.heap.size, 2, none⟩ = some (.int .i64 lo) := by rw [← hW]; exact box_cell 2 _ rfl
 have d3 : W.cell? ⟨w.heap.size, 3, none⟩ = some (.int .i64 hi) := by rw [← hW]; exact box_cell 3 _ rfl
 have d4 : W.cell? ⟨w.heap.size, 4, none⟩ = some (.slice K m c) := by rw [← hW]; exact box_cell 4 _ rfl
 have HJ := Lib.hid (h.later hbW)
 have HGW := Lib.hid (grown_any (o := J.bt) hbW)
 have HNE := Lib.hid (show w.heap.size ≠ J.bt from by have := h.bt0; omega)
 have hn : J.n ≤ 1000 := by have := h.hn; omega
 have HT := Lib.hid h.jw.tn
 have HKD := Lib.hid (kind_of hnv.hk)
 clear h hnv hbW
 go_enter Tryz.func24, Tryz.ntmps24
 go_wp2_with fail
 go_ret
 exact ⟨σ, _, _, _, rfl, HJ.out, HGW.out, fun _ _ => rfl, fun e => absurd e (by rw [HKD.out]; decide)⟩
set_option maxHeartbeats 8000000 in
set_option maxRecDepth 100000 in
theorem node_20 (J : Jd) (w0 : World) (σ : List Value) (k m c : Nat) (nm : ByteArray) (lo hi : Int) (ks : List Int) (K : Option Addr) (w : World) (h : JS J w0 σ w) (_hl : Live J k σ w) (hnv : Nv J w0 k ⟨20, nm, lo, hi, ks⟩ K m c) :
  Calls Tryz.prog 24 #[.pointer (some ⟨J.gj, 0, none⟩), .agg #[.int .i64 20, .string nm, .int .i64 lo, .int .i64 hi, .slice K m c]] w (GotNd J w0 k σ w) := by
 obtain ⟨W, hW⟩ : ∃ W, w.alloc (.cells #[.int .i64 20, .string nm, .int .i64 lo, .int .i64 hi, .slice K m c] 37) = W := ⟨_, rfl⟩
 have hbW : Below w.heap.size w W := by rw [← hW]; exact (Below.refl _ _).alloc (Nat.le_refl _) _
 have d0 : W.cell? ⟨w.heap.size, 0, none⟩ = some (.int .i64 20) := by rw [← hW]; exact box_cell 0 _ rfl
 have d1 : W.cell? ⟨w.heap.size, 1, none⟩ = some (.string nm) := by rw [← hW]; exact box_cell 1 _ rfl
 have d2 : W.cell? ⟨w.heap.size, 2, none⟩ = some (.int .i64 lo) := by rw [← hW]; exact box_cell 2 _ rfl
 have d3 : W.cell? ⟨w.heap.size, 3, none⟩ = some (.int .i64 hi) := by rw [← hW]; exact box_cell 3 _ rfl
 have d4 : W.cell? ⟨w.heap.size, 4, none⟩ = some (.slice K m c) := by rw [← hW]; exact box_cell 4 _ rfl
 have HJ := Lib.hid (h.later hbW)
 have HGW := Lib.hid (grown_any (o := J.bt) hbW)
 have HNE := Lib.hid (show w.heap.size ≠ J.bt from by have := h.bt0; omega)
 have hn : J.n ≤ 1000 := by have := h.hn; omega
 have HT := Lib.hid h.jw.tn
 have HKD := Lib.hid (kind_of hnv.hk)
 clear h hnv hbW
 go_enter Tryz.func24, Tryz.ntmps24
 go_wp2_with fail
 go_ret
 exact ⟨σ, _, _, _, rfl, HJ.out, HGW.out, fun _ _ => rfl, fun e => absurd e (by rw [HKD.out]; decide)⟩
set_option maxHeartbeats 8000000 in
set_option maxRecDepth 100000 in
theorem node_21 (J : Jd) (w0 : World) (σ : List Value) (k m c : Nat) (nm : ByteArray) (lo hi : Int) (ks : List Int) (K : Option Addr) (w : World) (h : JS J w0 σ w) (_hl : Live J k σ w) (hnv : Nv J w0 k ⟨21, nm, lo, hi, ks⟩ K m c) :
  Calls Tryz.prog 24 #[.pointer (some ⟨J.gj, 0, none⟩), .agg #[.int .i64 21, .string nm, .int .i64 lo, .int .i64 hi, .slice K m c]] w (GotNd J w0 k σ w) := by
 obtain ⟨W, hW⟩ : ∃ W, w.alloc (.cells #[.int .i64 21, .string nm, .int .i64 lo, .int .i64 hi, .slice K m c] 37) = W := ⟨_, rfl⟩
 have hbW : Below w.heap.size w W := by rw [← hW]; exact (Below.refl _ _).alloc (Nat.le_refl _) _
 have d0 : W.cell? ⟨w.heap.size, 0, none⟩ = some (.int .i64 21) := by rw [← hW]; exact box_cell 0 _ rfl
 have d1 : W.cell? ⟨w.heap.size, 1, none⟩ = some (.string nm) := by rw [← hW]; exact box_cell 1 _ rfl
 have d2 : W.cell? ⟨w.heap.size, 2, none⟩ = some (.int .i64 lo) := by rw [← hW]; exact box_cell 2 _ rfl
 have d3 : W.cell? ⟨w.heap.size, 3, none⟩ = some (.int .i64 hi) := by rw [← hW]; exact box_cell 3 _ rfl
 have d4 : W.cell? ⟨w.heap.size, 4, none⟩ = some (.slice K m c) := by rw [← hW]; exact box_cell 4 _ rfl
 have HJ := Lib.hid (h.later hbW)
 have HGW := Lib.hid (grown_any (o := J.bt) hbW)
 have HNE := Lib.hid (show w.heap.size ≠ J.bt from by have := h.bt0; omega)
 have hn : J.n ≤ 1000 := by have := h.hn; omega
 have HT := Lib.hid h.jw.tn
 have HKD := Lib.hid (kind_of hnv.hk)
 clear h hnv hbW
 go_enter Tryz.func24, Tryz.ntmps24
 go_wp2_with fail
 go_ret
 exact ⟨σ, _, _, _, rfl, HJ.out, HGW.out, fun _ _ => rfl, fun e => absurd e (by rw [HKD.out]; decide)⟩
set_option maxHeartbeats 8000000 in
set_option maxRecDepth 100000 in
theorem node_22 (J : Jd) (w0 : World) (σ : List Value) (k m c : Nat) (nm : ByteArray) (lo hi : Int) (ks : List Int) (K : Option Addr) (w : World) (h : JS J w0 σ w) (_hl : Live J k σ w) (hnv : Nv J w0 k ⟨22, nm, lo, hi, ks⟩ K m c) :
  Calls Tryz.prog 24 #[.pointer (some ⟨J.gj, 0, none⟩), .agg #[.int .i64 22, .string nm, .int .i64 lo, .int .i64 hi, .slice K m c]] w (GotNd J w0 k σ w) := by
 obtain ⟨W, hW⟩ : ∃ W, w.alloc (.cells #[.int .i64 22, .string nm, .int .i64 lo, .int .i64 hi, .slice K m c] 37) = W := ⟨_, rfl⟩
 have hbW : Below w.heap.size w W := by rw [← hW]; exact (Below.refl _ _).alloc (Nat.le_refl _) _
 have d0 : W.cell? ⟨w.heap.size, 0, none⟩ = some (.int .i64 22) := by rw [← hW]; exact box_cell 0 _ rfl
 have d1 : W.cell? ⟨w.heap.size, 1, none⟩ = some (.string nm) := by rw [← hW]; exact box_cell 1 _ rfl
 have d2 : W.cell? ⟨w.heap.size, 2, none⟩ = some (.int .i64 lo) := by rw [← hW]; exact box_cell 2 _ rfl
 have d3 : W.cell? ⟨w.heap.size, 3, none⟩ = some (.int .i64 hi) := by rw [← hW]; exact box_cell 3 _ rfl
 have d4 : W.cell? ⟨w.heap.size, 4, none⟩ = some (.slice K m c) := by rw [← hW]; exact box_cell 4 _ rfl
 have HJ := Lib.hid (h.later hbW)
 have HGW := Lib.hid (grown_any (o := J.bt) hbW)
 have HNE := Lib.hid (show w.heap.size ≠ J.bt from by have := h.bt0; omega)
 have hn : J.n ≤ 1000 := by have := h.hn; omega
 have HT := Lib.hid h.jw.tn
 have HKD := Lib.hid (kind_of hnv.hk)
 clear h hnv hbW
 go_enter Tryz.func24, Tryz.ntmps24
 go_wp2_with fail
 go_ret
 exact ⟨σ, _, _, _, rfl, HJ.out, HGW.out, fun _ _ => rfl, fun e => absurd e (by rw [HKD.out]; decide)⟩
end Go.Proofs.YtdbgaccnejffpaaGreatDoor.Sat
