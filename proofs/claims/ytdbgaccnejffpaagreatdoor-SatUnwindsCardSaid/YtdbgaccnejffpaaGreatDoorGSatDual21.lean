/-
  The landed prev, next, both, prop (stage 15). By an AI agent.
  Formulas that are alike at every point (stage 15). By an AI agent.
-/
import Derived.Test.YtdbgaccnejffpaaGreatDoorGSatDual1
import Derived.Test.YtdbgaccnejffpaaGreatDoorGSatDual19
import Derived.Test.YtdbgaccnejffpaaGreatDoorGSatDual20
import Derived.Test.YtdbgaccnejffpaaGreatDoorGSatDual3
namespace Go.Proofs.YtdbgaccnejffpaaGreatDoor.Sat
open Go.RowKit Go.Proofs.YtdbgaccnejffpaaGreatDoor.Ints Go.Proofs.YtdbgaccnejffpaaGreatDoor.Mem Go.Proofs.YtdbgaccnejffpaaGreatDoor.Src Go.Proofs.YtdbgaccnejffpaaGreatDoor.Paths Go.Proofs.YtdbgaccnejffpaaGreatDoor.Late Go.Proofs.YtdbgaccnejffpaaGreatDoor.Trace
theorem enterPv : ∀ args w, (callFunc 58 args).run Tryz.prog w = .ok (.enter 58 args) w := enters_of Tryz.func58 (by kernel_rfl) rfl
theorem enterNx : ∀ args w, (callFunc 61 args).run Tryz.prog w = .ok (.enter 61 args) w := enters_of Tryz.func61 (by kernel_rfl) rfl
theorem enterBo : ∀ args w, (callFunc 57 args).run Tryz.prog w = .ok (.enter 57 args) w := enters_of Tryz.func57 (by kernel_rfl) rfl
theorem enterPr : ∀ args w, (callFunc 55 args).run Tryz.prog w = .ok (.enter 55 args) w := enters_of Tryz.func55 (by kernel_rfl) rfl
theorem enterNd : ∀ args w, (callFunc 33 args).run Tryz.prog w = .ok (.enter 33 args) w := enters_of Tryz.func33 (by kernel_rfl) rfl
def prevB (J : Jd) (lo hi : Int) (f : Nat → Bool) (i : Nat) : Bool := decide (0 < i) && (f (i - 1) && Ival.hasS lo hi ((tmOf J.t).tm i - (tmOf J.t).tm (i - 1)))
def nextB (J : Jd) (lo hi : Int) (f : Nat → Bool) (i : Nat) : Bool := decide (i + 1 < J.n) && (f (i + 1) && Ival.hasS lo hi ((tmOf J.t).tm (i + 1) - (tmOf J.t).tm i))
theorem three_boxes {w W1 W2 W3 : World} {c1 c2 c3 : Array Value} {T1 T2 T3 : TypeId} (h1 : w.alloc (.cells c1 T1) = W1) (h2 : W1.alloc (.cells c2 T2) = W2) (h3 : W2.alloc (.cells c3 T3) = W3) :
  Below w.heap.size w W3 ∧ (∀ k u, c1[k]? = some u → W3.cell? ⟨w.heap.size, k, none⟩ = some u) ∧ (∀ k u, c2[k]? = some u → W3.cell? ⟨w.heap.size + 1, k, none⟩ = some u) ∧ (∀ k u, c3[k]? = some u → W3.cell? ⟨w.heap.size + 2, k, none⟩ = some u) := by
 have s1 : W1.heap.size = w.heap.size + 1 := by rw [← h1]; simp
 have s2 : W2.heap.size = w.heap.size + 2 := by rw [← h2]; simp [s1]
 have b1 : Below w.heap.size w W1 := by rw [← h1]; exact (Below.refl _ _).alloc (Nat.le_refl _) _
 have b2 : Below W1.heap.size W1 W2 := by rw [← h2]; exact (Below.refl _ _).alloc (Nat.le_refl _) _
 have b3 : Below W2.heap.size W2 W3 := by rw [← h3]; exact (Below.refl _ _).alloc (Nat.le_refl _) _
 refine ⟨(b1.trans (b2.mono (by omega))).trans (b3.mono (by omega)), fun k u hu => ?_, fun k u hu => ?_, fun k u hu => ?_⟩
 ·have x := box_cell (w := w) (T := T1) k u hu
  rw [h1] at x
  exact below_cell b3 (below_cell b2 x)
 ·have x := box_cell (w := W1) (T := T2) k u hu
  rw [h2, s1] at x
  exact below_cell b3 x
 ·have x := box_cell (w := W2) (T := T3) k u hu
  rw [h3, s2] at x
  exact x
section
variable (J : Jd) (lo hi : Int) (b : Nat) (f : Nat → Bool) (w : World) (h : JW J w) (hr : RB w b J.n f)
include h hr
set_option maxHeartbeats 8000000 in
set_option maxRecDepth 100000 in
theorem landPrev : Calls Tryz.prog 38 #[.pointer (some ⟨J.gj, 0, none⟩), Ival.span lo hi, .slice (some ⟨b, 0, none⟩) J.n J.n] w (GotB w J.n (prevB J lo hi f)) := by
 obtain ⟨W1, h1⟩ : ∃ W1, w.alloc (.cells #[.pointer (some ⟨J.gj, 0, none⟩)] 62) = W1 := ⟨_, rfl⟩
 obtain ⟨W2, h2⟩ : ∃ W2, W1.alloc (.cells #[.int .i64 lo, .int .i64 hi] 33) = W2 := ⟨_, rfl⟩
 obtain ⟨W3, h3⟩ : ∃ W3, W2.alloc (.cells #[.slice (some ⟨b, 0, none⟩) J.n J.n] 52) = W3 := ⟨_, rfl⟩
 obtain ⟨hb, x1, x2, x3⟩ := three_boxes h1 h2 h3
 have s1 : W1.heap.size = w.heap.size + 1 := by rw [← h1]; simp
 have s2 : W2.heap.size = w.heap.size + 2 := by rw [← h2]; simp [s1]
 have HE := Lib.hid (landEach J.gj J.n J.ec 58 J.EA #[.pointer (some ⟨w.heap.size + 2, 0, none⟩), .pointer (some ⟨w.heap.size + 1, 0, none⟩), .pointer (some ⟨w.heap.size, 0, none⟩)] (prevB J lo hi f) W3 (h.below hb).c1 enterPv (fun i hi0 V hV =>
  prev1 J (w.heap.size + 2) (w.heap.size + 1) w.heap.size b i f lo hi V ((h.below hb).below hV) (below_cell hV (x3 0 _ rfl)) (below_cell hV (x2 0 _ rfl)) (below_cell hV (x2 1 _ rfl)) (below_cell hV (x1 0 _ rfl)) ((hr.below hb).below hV) hi0) (by have := h.hn; omega))
 have HB := Lib.hid hb
 have y1 := x1 0 _ rfl
 clear h hr hb x1 x2 x3
 go_enter Tryz.func38, Tryz.ntmps38
 go_wp2_with fail
 refine HE.out.mono ?_
 rintro e w4 hg
 obtain ⟨q, rfl, g1, g2⟩ := hg.after HB.out
 have HG := Lib.hid (And.intro g1 g2)
 clear hg g1 g2
 go_wp2_with fail
 go_ret
 exact ⟨q, rfl, HG.out.1, HG.out.2⟩
set_option maxHeartbeats 8000000 in
set_option maxRecDepth 100000 in
theorem landNext : Calls Tryz.prog 39 #[.pointer (some ⟨J.gj, 0, none⟩), Ival.span lo hi, .slice (some ⟨b, 0, none⟩) J.n J.n] w (GotB w J.n (nextB J lo hi f)) := by
 obtain ⟨W1, h1⟩ : ∃ W1, w.alloc (.cells #[.pointer (some ⟨J.gj, 0, none⟩)] 62) = W1 := ⟨_, rfl⟩
 obtain ⟨W2, h2⟩ : ∃ W2, W1.alloc (.cells #[.int .i64 lo, .int .i64 hi] 33) = W2 := ⟨_, rfl⟩
 obtain ⟨W3, h3⟩ : ∃ W3, W2.alloc (.cells #[.slice (some ⟨b, 0, none⟩) J.n J.n] 52) = W3 := ⟨_, rfl⟩
 obtain ⟨hb, x1, x2, x3⟩ := three_boxes h1 h2 h3
 have s1 : W1.heap.size = w.heap.size + 1 := by rw [← h1]; simp
 have s2 : W2.heap.size = w.heap.size + 2 := by rw [← h2]; simp [s1]
 have HE := Lib.hid (landEach J.gj J.n J.ec 61 J.EA #[.pointer (some ⟨w.heap.size + 2, 0, none⟩), .pointer (some ⟨w.heap.size + 1, 0, none⟩), .pointer (some ⟨w.heap.size, 0, none⟩)] (nextB J lo hi f) W3 (h.below hb).c1 enterNx (fun i hi0 V hV =>
  next1 J (w.heap.size + 2) (w.heap.size + 1) w.heap.size b i f lo hi V ((h.below hb).below hV) (below_cell hV (x3 0 _ rfl)) (below_cell hV (x2 0 _ rfl)) (below_cell hV (x2 1 _ rfl)) (below_cell hV (x1 0 _ rfl)) ((hr.below hb).below hV) hi0) (by have := h.hn; omega))
 have HB := Lib.hid hb
 have y1 := x1 0 _ rfl
 clear h hr hb x1 x2 x3
 go_enter Tryz.func39, Tryz.ntmps39
 go_wp2_with fail
 refine HE.out.mono ?_
 rintro e w4 hg
 obtain ⟨q, rfl, g1, g2⟩ := hg.after HB.out
 have HG := Lib.hid (And.intro g1 g2)
 clear hg g1 g2
 go_wp2_with fail
 go_ret
 exact ⟨q, rfl, HG.out.1, HG.out.2⟩
end
def bothB (k : Int) (x y : Bool) : Bool := if k = 5 then x && y else if k = 6 then x || y else !x || y
set_option maxHeartbeats 8000000 in
set_option maxRecDepth 100000 in
theorem both1 (bk ba bb b1 b2 n i : Nat) (k : Int) (f g : Nat → Bool) (w : World) (hk : k = 5 ∨ k = 6 ∨ k = 7) (x0 : w.cell? ⟨bk, 0, none⟩ = some (.int .i64 k)) (x1 : w.cell? ⟨ba, 0, none⟩ = some (.slice (some ⟨b1, 0, none⟩) n n)) (x2 : w.cell? ⟨bb, 0, none⟩ = some (.slice (some ⟨b2, 0, none⟩) n n)) (hf : RB w b1 n f) (hg : RB w b2 n g) (hin : i < n) :
  Calls Tryz.prog 57 #[.int .i64 ((i : Nat) : Int), .pointer (some ⟨bk, 0, none⟩), .pointer (some ⟨ba, 0, none⟩), .pointer (some ⟨bb, 0, none⟩)] w fun e w' => e = .returned (.bool (bothB k (f i) (g i))) ∧ Below w.heap.size w w' := by
 have y1 := hf i hin
 have y2 := hg i hin
 have HB0 := Lib.hid (Below.refl w.heap.size w)
 clear hf hg
 rcases hk with rfl | rfl | rfl
 all_goals
  cases hF : f i <;> cases hG : g i
  all_goals
   rw [hF] at y1
   rw [hG] at y2
   clear hF hG
   go_enter Tryz.func57, Tryz.ntmps57
   go_wp2_with fail
   go_ret
   exact ⟨rfl, HB0.out⟩
set_option maxHeartbeats 8000000 in
set_option maxRecDepth 100000 in
theorem landBoth (J : Jd) (k : Int) (b1 b2 : Nat) (f g : Nat → Bool) (w : World) (h : JW J w) (hk : k = 5 ∨ k = 6 ∨ k = 7) (hf : RB w b1 J.n f) (hg : RB w b2 J.n g) :
  Calls Tryz.prog 37 #[.pointer (some ⟨J.gj, 0, none⟩), .int .i64 k, .slice (some ⟨b1, 0, none⟩) J.n J.n, .slice (some ⟨b2, 0, none⟩) J.n J.n] w (GotB w J.n (fun i => bothB k (f i) (g i))) := by
 obtain ⟨W1, h1⟩ : ∃ W1, w.alloc (.cells #[.int .i64 k] 3) = W1 := ⟨_, rfl⟩
 obtain ⟨W2, h2⟩ : ∃ W2, W1.alloc (.cells #[.slice (some ⟨b1, 0, none⟩) J.n J.n] 52) = W2 := ⟨_, rfl⟩
 obtain ⟨W3, h3⟩ : ∃ W3, W2.alloc (.cells #[.slice (some ⟨b2, 0, none⟩) J.n J.n] 52) = W3 := ⟨_, rfl⟩
 obtain ⟨hb, x1, x2, x3⟩ := three_boxes h1 h2 h3
 have s1 : W1.heap.size = w.heap.size + 1 := by rw [← h1]; simp
 have s2 : W2.heap.size = w.heap.size + 2 := by rw [← h2]; simp [s1]
 have HE := Lib.hid (landEach J.gj J.n J.ec 57 J.EA #[.pointer (some ⟨w.heap.size, 0, none⟩), .pointer (some ⟨w.heap.size + 1, 0, none⟩), .pointer (some ⟨w.heap.size + 2, 0, none⟩)] (fun i => bothB k (f i) (g i)) W3 (h.below hb).c1 enterBo (fun i hi0 V hV =>
  both1 w.heap.size (w.heap.size + 1) (w.heap.size + 2) b1 b2 J.n i k f g V hk (below_cell hV (x1 0 _ rfl)) (below_cell hV (x2 0 _ rfl)) (below_cell hV (x3 0 _ rfl)) ((hf.below hb).below hV) ((hg.below hb).below hV) hi0) (by have := h.hn; omega))
 have HB := Lib.hid hb
 clear h hk hf hg hb x1 x2 x3
 go_enter Tryz.func37, Tryz.ntmps37
 go_wp2_with fail
 refine HE.out.mono ?_
 rintro e w4 hg
 obtain ⟨q, rfl, g1, g2⟩ := hg.after HB.out
 have HG := Lib.hid (And.intro g1 g2)
 clear hg g1 g2
 go_wp2_with fail
 go_ret
 exact ⟨q, rfl, HG.out.1, HG.out.2⟩
set_option maxHeartbeats 8000000 in
set_option maxRecDepth 100000 in
theorem prop1 (J : Jd) (bx bd i : Nat) (d : Int) (w : World) (h : JW J w) (hx : w.cell? ⟨bx, 0, none⟩ = some (.pointer (some ⟨J.gj, 0, none⟩))) (hd : w.cell? ⟨bd, 0, none⟩ = some (.int .i64 d)) (hin : i < J.n) :
  Calls Tryz.prog 55 #[.int .i64 ((i : Nat) : Int), .pointer (some ⟨bx, 0, none⟩), .pointer (some ⟨bd, 0, none⟩)] w fun e w' => e = .returned (.bool (decide (d ∈ (J.t.events.getD i noEv).ids))) ∧ Below w.heap.size w w' := by
 obtain ⟨b, off, K, c, hE, -, -, x2, hK, hKc, hcm⟩ := h.ev hin
 obtain ⟨ev, hev⟩ : ∃ ev, J.t.events.getD i noEv = ev := ⟨_, rfl⟩
 rw [hev] at x2 hK hKc ⊢
 have c1 := h.c1
 rw [hE] at c1
 obtain ⟨r, hr⟩ : ∃ r, decide (d ∈ ev.ids) = r := ⟨_, rfl⟩
 have HC := Lib.hid (containsInt K ev.ids.length c ev.ids d w.drew (Nat.le_trans hKc hcm) hK.drew)
 obtain ⟨q, hq⟩ : ∃ q, ev.ids.length = q := ⟨_, rfl⟩
 rw [hr] at HC ⊢
 rw [hq] at HC x2
 have hii : ((i : Nat) : Int) < ((J.n : Nat) : Int) := by omega
 obtain ⟨g, hg⟩ : ∃ g, J.gj = g := ⟨_, rfl⟩
 obtain ⟨n, hn⟩ : ∃ n, J.n = n := ⟨_, rfl⟩
 rw [hg] at c1 hx
 rw [hn] at c1 hii
 have HB0 := Lib.hid (Below.refl w.heap.size w)
 clear h hE hK hKc hcm hev hr hq hg hn hin
 go_enter Tryz.func55, Tryz.ntmps55
 go_wp2_with fail
 refine wp_region_held_drew (S := fun V => V.cell? ⟨bx, 0, none⟩ = some (.pointer (some ⟨g, 0, none⟩)) ∧ V.cell? ⟨g, 1, none⟩ = some (.slice (some ⟨b, off, none⟩) n J.ec) ∧ V.cell? ⟨b, off + i * 2 + 1, none⟩ = some (.slice K q c) ∧ V.cell? ⟨bd, 0, none⟩ = some (.int .i64 d)) (by kernel_rfl) ⟨hx, c1, x2, hd⟩ (fun hHeld => ?_)
 refine tkOp 0 hHeld ?_
 refine tkOp 1 hHeld ?_
 refine tkOp 2 hHeld ?_
 refine tkOp 3 hHeld ?_
 refine tkOp 4 hHeld ?_
 refine tkOp 5 hHeld ?_
 refine tkOp 6 hHeld ?_
 refine tkOp 7 hHeld ?_
 refine tkOp 8 hHeld ?_
 refine tkCall 9 (fun Kt hKt => ?_)
 go_simp
 (go_at_call 56; refine HC.out.mono ?_; rintro e w1 ⟨rfl, rfl⟩)
 refine hKt.out _ _ ?_ (fun hT => ?_)
 ·(exact ⟨hx, c1, x2, hd⟩)
 clear hKt Kt hHeld
 have hHeld := hT
 clear hT
 try simp only [Act.put, tkA, tkB, tkC]
 refine tkOp 10 hHeld ?_
 refine wpAnyH_done (by kernel_rfl) ?_ _
 clear hHeld
 go_wp2_with fail
 go_ret
 exact ⟨rfl, HB0.out.drew⟩
set_option maxHeartbeats 8000000 in
set_option maxRecDepth 100000 in
theorem landProp (J : Jd) (s : ByteArray) (w : World) (h : JW J w) :
  Calls Tryz.prog 34 #[.pointer (some ⟨J.gj, 0, none⟩), .string s] w (GotB w J.n (fun i => holdsT J.t ((i : Nat) : Int) s.data.toList)) := by
 obtain ⟨W1, h1⟩ : ∃ W1, w.alloc (.cells #[.pointer (some ⟨J.gj, 0, none⟩)] 62) = W1 := ⟨_, rfl⟩
 obtain ⟨d, hd⟩ : ∃ d, idxL J.t.names s.data.toList = d := ⟨_, rfl⟩
 obtain ⟨W2, h2⟩ : ∃ W2, W1.alloc (.cells #[.int .i64 d] 3) = W2 := ⟨_, rfl⟩
 have s1 : W1.heap.size = w.heap.size + 1 := by rw [← h1]; simp
 have b1 : Below w.heap.size w W1 := by rw [← h1]; exact (Below.refl _ _).alloc (Nat.le_refl _) _
 have b2 : Below W1.heap.size W1 W2 := by rw [← h2]; exact (Below.refl _ _).alloc (Nat.le_refl _) _
 have hb : Below w.heap.size w W2 := b1.trans (b2.mono (by omega))
 have x1 : W1.cell? ⟨w.heap.size, 0, none⟩ = some (.pointer (some ⟨J.gj, 0, none⟩)) := by rw [← h1]; exact box_cell 0 _ rfl
 have x2 : W2.cell? ⟨w.heap.size, 0, none⟩ = some (.pointer (some ⟨J.gj, 0, none⟩)) := below_cell b2 x1
 have x3 : W2.cell? ⟨w.heap.size + 1, 0, none⟩ = some (.int .i64 d) := by
  have x := box_cell (w := W1) (cs := #[.int .i64 d]) (T := 3) 0 _ rfl
  rwa [h2, s1] at x
 have HI := indexStr J.NA J.nn J.nc J.t.names s W1 h.tr.nlen (Nat.le_trans h.tr.ncap.1 h.tr.ncap.2) (h.tr.names.below b1)
 rw [hd] at HI
 have HI := Lib.hid HI
 have HE := Lib.hid (landEach J.gj J.n J.ec 55 J.EA #[.pointer (some ⟨w.heap.size, 0, none⟩), .pointer (some ⟨w.heap.size + 1, 0, none⟩)] (fun i => holdsT J.t ((i : Nat) : Int) s.data.toList) W2 (h.below hb).c1 enterPr (fun i hi0 V hV => by
  have := prop1 J w.heap.size (w.heap.size + 1) i d V ((h.below hb).below hV) (below_cell hV x2) (below_cell hV x3) hi0
  rw [← hd, ← holds_idx h.mt (by rw [h.tr.elen]; exact hi0) s.data.toList] at this
  exact this) (by have := h.hn; omega))
 have c0 := (h.below b1).c0
 have HB := Lib.hid hb
 obtain ⟨g, hg⟩ : ∃ g, J.gj = g := ⟨_, rfl⟩
 rw [hg] at c0 x1 x2 HE h1 ⊢
 clear h hd b1 b2 hb x3 hg
 go_enter Tryz.func34, Tryz.ntmps34
 go_wp2_with fail
 refine HI.out.mono ?_
 rintro e w5 ⟨rfl, rfl⟩
 go_wp2_with fail
 refine HE.out.mono ?_
 rintro e w4 hg
 obtain ⟨q, rfl, g1, g2⟩ := hg.after HB.out
 have HG := Lib.hid (And.intro g1 g2)
 clear hg g1 g2
 go_wp2_with fail
 go_ret
 exact ⟨q, rfl, HG.out.1, HG.out.2⟩
end Go.Proofs.YtdbgaccnejffpaaGreatDoor.Sat

namespace Go.Proofs.YtdbgaccnejffpaaGreatDoor.Sat
open Go.Proofs.YtdbgaccnejffpaaGreatDoor.Paths
def Same (T : Tm) (f g : Fo) : Prop := ∀ p, p < T.n → (sem T f p p ↔ sem T g p p)
section
variable {T : Tm} {p : Nat} {k lo hi : Int} {a b : Fo}
theorem sem_o (hk : k ≠ 22) (hp : p < T.n) : sem T (.o k lo hi a) p p ↔ oneP T k lo hi (sem T a) p := by
 unfold sem
 rw [if_neg hk]
 exact ⟨fun h => h.2.2, fun h => ⟨rfl, hp, h⟩⟩
theorem sem_t (h1 : k ≠ 20) (h2 : k ≠ 21) (hp : p < T.n) : sem T (.t k lo hi a b) p p ↔ twoP T k lo hi (sem T a) (sem T b) p := by
 unfold sem
 rw [if_neg h1, if_neg h2]
 exact ⟨fun h => h.2.2, fun h => ⟨rfl, hp, h⟩⟩
theorem sem_not (hp : p < T.n) : sem T (.o 4 lo hi a) p p ↔ ¬ sem T a p p := sem_o (by decide) hp
theorem sem_prev (hp : p < T.n) : sem T (.o 8 lo hi a) p p ↔ (0 < p ∧ T.near lo hi (p - 1) p ∧ sem T a (p - 1) (p - 1)) := sem_o (by decide) hp
theorem sem_next (hp : p < T.n) : sem T (.o 9 lo hi a) p p ↔ (p + 1 < T.n ∧ T.near lo hi p (p + 1) ∧ sem T a (p + 1) (p + 1)) := sem_o (by decide) hp
theorem sem_once (hp : p < T.n) : sem T (.o 10 lo hi a) p p ↔ ∃ j, j ≤ p ∧ T.near lo hi j p ∧ sem T a j j := sem_o (by decide) hp
theorem sem_hist (hp : p < T.n) : sem T (.o 11 lo hi a) p p ↔ ∀ j, j ≤ p → T.near lo hi j p → sem T a j j := sem_o (by decide) hp
theorem sem_some (hp : p < T.n) : sem T (.o 12 lo hi a) p p ↔ ∃ j, p ≤ j ∧ j < T.n ∧ T.near lo hi p j ∧ sem T a j j := sem_o (by decide) hp
theorem sem_all (hp : p < T.n) : sem T (.o 13 lo hi a) p p ↔ ∀ j, p ≤ j → j < T.n → T.near lo hi p j → sem T a j j := sem_o (by decide) hp
theorem sem_back (hp : p < T.n) : sem T (.o 16 lo hi a) p p ↔ ∃ j, j ≤ p ∧ T.near lo hi j p ∧ sem T a j p := sem_o (by decide) hp
theorem sem_fore (hp : p < T.n) : sem T (.o 17 lo hi a) p p ↔ ∃ j, p ≤ j ∧ j < T.n ∧ T.near lo hi p j ∧ sem T a p j := sem_o (by decide) hp
theorem sem_test {q : Nat} : sem T (.o 19 lo hi a) p q ↔ q = p ∧ p < T.n ∧ sem T a p p := Iff.rfl
theorem sem_and (hp : p < T.n) : sem T (.t 5 lo hi a b) p p ↔ sem T a p p ∧ sem T b p p := sem_t (by decide) (by decide) hp
theorem sem_or (hp : p < T.n) : sem T (.t 6 lo hi a b) p p ↔ sem T a p p ∨ sem T b p p := sem_t (by decide) (by decide) hp
theorem sem_imp (hp : p < T.n) : sem T (.t 7 lo hi a b) p p ↔ (sem T a p p → sem T b p p) := sem_t (by decide) (by decide) hp
theorem sem_since (hp : p < T.n) : sem T (.t 14 lo hi a b) p p ↔ ∃ j, j ≤ p ∧ T.near lo hi j p ∧ sem T b j j ∧ ∀ q, j < q → q ≤ p → sem T a q q := sem_t (by decide) (by decide) hp
theorem sem_until (hp : p < T.n) : sem T (.t 15 lo hi a b) p p ↔ ∃ j, p ≤ j ∧ j < T.n ∧ T.near lo hi p j ∧ sem T b j j ∧ ∀ q, p ≤ q → q < j → sem T a q q := sem_t (by decide) (by decide) hp
theorem sem_true (hp : p < T.n) (s : List UInt8) : sem T (.z 1 s) p p := ⟨rfl, hp, .inl rfl⟩
theorem sem_false (s : List UInt8) : ¬ sem T (.z 2 s) p p := fun h => by
 rcases (show p = p ∧ p < T.n ∧ leafP T 2 s p from h).2.2 with e | ⟨e, -⟩
 ·exact absurd e (by decide)
 ·exact absurd e (by decide)
theorem near_ever (i j : Nat) : T.near 0 (-1) i j := by
 unfold Tm.near Ival.hasS
 rw [Bool.and_eq_true]
 exact ⟨by decide, decide_eq_true ⟨by omega, .inl rfl⟩⟩
end
section
variable (T : Tm) (lo hi : Int) (a b r : Fo)
theorem dual_hist : Same T (.o 11 lo hi a) (.o 4 0 0 (.o 10 lo hi (.o 4 0 0 a))) := fun p hp => by
 rw [sem_hist hp, sem_not hp, sem_once hp]
 constructor
 ·rintro h ⟨j, h1, h2, h3⟩
  exact (sem_not (by omega)).1 h3 (h j h1 h2)
 ·intro h j h1 h2
  exact Classical.byContradiction fun h3 => h ⟨j, h1, h2, (sem_not (by omega)).2 h3⟩
theorem dual_all : Same T (.o 13 lo hi a) (.o 4 0 0 (.o 12 lo hi (.o 4 0 0 a))) := fun p hp => by
 rw [sem_all hp, sem_not hp, sem_some hp]
 constructor
 ·rintro h ⟨j, h1, h2, h3, h4⟩
  exact (sem_not h2).1 h4 (h j h1 h2 h3)
 ·intro h j h1 h2 h3
  exact Classical.byContradiction fun h4 => h ⟨j, h1, h2, h3, (sem_not h2).2 h4⟩
theorem since_yes (s : List UInt8) : Same T (.t 14 lo hi (.z 1 s) a) (.o 10 lo hi a) := fun p hp => by
 rw [sem_since hp, sem_once hp]
 exact exists_congr fun j => and_congr_right fun h1 => and_congr_right fun _ => and_iff_left fun q _ h2 => sem_true (by omega) s
theorem until_yes (s : List UInt8) : Same T (.t 15 lo hi (.z 1 s) a) (.o 12 lo hi a) := fun p hp => by
 rw [sem_until hp, sem_some hp]
 exact exists_congr fun j => and_congr_right fun h1 => and_congr_right fun _ => and_congr_right fun _ => and_iff_left fun q _ h2 => sem_true (by omega) s
theorem until_no (s : List UInt8) : Same T (.t 15 0 (-1) (.z 2 s) a) a := fun p hp => by
 rw [sem_until hp]
 constructor
 ·rintro ⟨j, h1, h2, -, h4, h5⟩
  by_cases e : p = j
  ·rwa [e]
  ·exact absurd (h5 p (Nat.le_refl _) (by omega)) (sem_false s)
 ·intro h
  exact ⟨p, Nat.le_refl _, hp, near_ever _ _, h, fun q _ _ => by omega⟩
theorem imp_or : Same T (.t 7 0 0 a b) (.t 6 0 0 (.o 4 0 0 a) b) := fun p hp => by
 rw [sem_imp hp, sem_or hp, sem_not hp]
 constructor
 ·intro h
  by_cases ha : sem T a p p
  ·exact .inr (h ha)
  ·exact .inl ha
 ·rintro (h | h) ha
  ·exact absurd ha h
  ·exact h
theorem not_and : Same T (.o 4 0 0 (.t 5 0 0 a b)) (.t 6 0 0 (.o 4 0 0 a) (.o 4 0 0 b)) := fun p hp => by
 rw [sem_not hp, sem_and hp, sem_or hp, sem_not hp, sem_not hp]
 constructor
 ·intro h
  by_cases ha : sem T a p p
  ·exact .inr fun hb => h ⟨ha, hb⟩
  ·exact .inl ha
 ·rintro (h | h) ⟨h1, h2⟩
  ·exact h h1
  ·exact h h2
end
end Go.Proofs.YtdbgaccnejffpaaGreatDoor.Sat
