/-
  The landed prev, next, both, prop (stage 15). By an AI agent.
  Formulas that are alike at every point (stage 15). By an AI agent.
  What the landed program asks of a list of nodes, as plain functions; it is what may be. The walks of the landed tree's small functions: kidCount, isForm, isReg, takesReg. The walks of the landed ival's endless and May, for seats that hold May alone. The walks of the landed tree's rightName, rightSpan, rightFields and rightKids. The walk of the landed tree's rightKids.
    Made of several texts by wip/tools/mergetpl.py. By an AI agent.
-/
import Derived.Test.YtdbgaccnejffpaaGSatShift1
import Derived.Test.YtdbgaccnejffpaaGSatShift17
import Derived.Test.YtdbgaccnejffpaaGSatShift18
import Derived.Test.YtdbgaccnejffpaaGSatShift3
import Derived.Test.YtdbgaccnejffpaaGSatShift6
import Derived.Test.YtdbgaccnejffpaaGSatShift14
namespace Go.Proofs.Ytdbgaccnejffpaa.Sat
open Go.RowKit Go.Proofs.Ytdbgaccnejffpaa.Ints Go.Proofs.Ytdbgaccnejffpaa.Mem Go.Proofs.Ytdbgaccnejffpaa.Src Go.Proofs.Ytdbgaccnejffpaa.Paths Go.Proofs.Ytdbgaccnejffpaa.Late Go.Proofs.Ytdbgaccnejffpaa.Trace
theorem enterPv : ∀ args w, (callFunc 56 args).run Try.prog w = .ok (.enter 56 args) w := enters_of Try.func56 (by kernel_rfl) rfl
theorem enterNx : ∀ args w, (callFunc 59 args).run Try.prog w = .ok (.enter 59 args) w := enters_of Try.func59 (by kernel_rfl) rfl
theorem enterBo : ∀ args w, (callFunc 55 args).run Try.prog w = .ok (.enter 55 args) w := enters_of Try.func55 (by kernel_rfl) rfl
theorem enterPr : ∀ args w, (callFunc 53 args).run Try.prog w = .ok (.enter 53 args) w := enters_of Try.func53 (by kernel_rfl) rfl
theorem enterNd : ∀ args w, (callFunc 28 args).run Try.prog w = .ok (.enter 28 args) w := enters_of Try.func28 (by kernel_rfl) rfl
def prevB (J : Jd) (lo hi : Int) (f : Nat → Bool) (i : Nat) : Bool := decide (0 < i) && (f (i - 1) && Ival.hasS lo hi ((tmOf J.t).tm i - (tmOf J.t).tm (i - 1)))
def nextB (J : Jd) (lo hi : Int) (f : Nat → Bool) (i : Nat) : Bool := decide (i + 1 < J.n) && (f (i + 1) && Ival.hasS lo hi ((tmOf J.t).tm (i + 1) - (tmOf J.t).tm i))
theorem three_boxes {w W1 W2 W3 : World} {c1 c2 c3 : Array Value} {T1 T2 T3 : TypeId} (h1 : w.alloc (.cells c1 T1) = W1) (h2 : W1.alloc (.cells c2 T2) = W2) (h3 : W2.alloc (.cells c3 T3) = W3) :
  Below w.heap.size w W3 ∧ (∀ k u, c1[k]? = some u → W3.cell? ⟨w.heap.size, k, none⟩ = some u) ∧ (∀ k u, c2[k]? = some u → W3.cell? ⟨w.heap.size + 1, k, none⟩ = some u) ∧ (∀ k u, c3[k]? = some u → W3.cell? ⟨w.heap.size + 2, k, none⟩ = some u) := by
 have s1 : W1.heap.size = w.heap.size + 1 := by rw [← h1]; simp
 have s2 : W2.heap.size = w.heap.size + 2 := by rw [← h2]; simp [s1]
 have b1 : Below w.heap.size w W1 := by rw [← h1]; exact (Below.refl _ _).alloc (Nat.le_refl _) _
 have b2 : Below W1.heap.size W1 W2 := by rw [← h2]; exact (Below.refl _ _).alloc (Nat.le_refl _) _
 have b3 : Below W2.heap.size W2 W3 := by rw [← h3]; exact (Below.refl _ _).alloc (Nat.le_refl _) _
 refine ⟨(b1.trans (b2.mono (by omega))).trans (b3.mono (by omega)), fun k u hu => ?_, fun k u hu => ?_, fun k u hu => ?_⟩
 ·have x := box_cell (w := w) (T := T1) k u hu
  rw [h1] at x
  exact below_cell b3 (below_cell b2 x)
 ·have x := box_cell (w := W1) (T := T2) k u hu
  rw [h2, s1] at x
  exact below_cell b3 x
 ·have x := box_cell (w := W2) (T := T3) k u hu
  rw [h3, s2] at x
  exact x
section
variable (J : Jd) (lo hi : Int) (b : Nat) (f : Nat → Bool) (w : World) (h : JW J w) (hr : RB w b J.n f)
include h hr
set_option maxHeartbeats 8000000 in
set_option maxRecDepth 100000 in
theorem landPrev : Calls Try.prog 33 #[.pointer (some ⟨J.gj, 0, none⟩), Ival.span lo hi, .slice (some ⟨b, 0, none⟩) J.n J.n] w (GotB w J.n (prevB J lo hi f)) := by
 obtain ⟨W1, h1⟩ : ∃ W1, w.alloc (.cells #[.pointer (some ⟨J.gj, 0, none⟩)] 55) = W1 := ⟨_, rfl⟩
 obtain ⟨W2, h2⟩ : ∃ W2, W1.alloc (.cells #[.int .i64 lo, .int .i64 hi] 50) = W2 := ⟨_, rfl⟩
 obtain ⟨W3, h3⟩ : ∃ W3, W2.alloc (.cells #[.slice (some ⟨b, 0, none⟩) J.n J.n] 35) = W3 := ⟨_, rfl⟩
 obtain ⟨hb, x1, x2, x3⟩ := three_boxes h1 h2 h3
 have s1 : W1.heap.size = w.heap.size + 1 := by rw [← h1]; simp
 have s2 : W2.heap.size = w.heap.size + 2 := by rw [← h2]; simp [s1]
 have HE := Lib.hid (landEach J.gj J.n J.ec 56 J.EA #[.pointer (some ⟨w.heap.size + 2, 0, none⟩), .pointer (some ⟨w.heap.size + 1, 0, none⟩), .pointer (some ⟨w.heap.size, 0, none⟩)] (prevB J lo hi f) W3 (h.below hb).c1 enterPv (fun i hi0 V hV =>
  prev1 J (w.heap.size + 2) (w.heap.size + 1) w.heap.size b i f lo hi V ((h.below hb).below hV) (below_cell hV (x3 0 _ rfl)) (below_cell hV (x2 0 _ rfl)) (below_cell hV (x2 1 _ rfl)) (below_cell hV (x1 0 _ rfl)) ((hr.below hb).below hV) hi0) (by have := h.hn; omega))
 have HB := Lib.hid hb
 have y1 := x1 0 _ rfl
 clear h hr hb x1 x2 x3
 go_enter Try.func33, Try.ntmps33
 go_wp2_with fail
 refine HE.out.mono ?_
 rintro e w4 hg
 obtain ⟨q, rfl, g1, g2⟩ := hg.after HB.out
 have HG := Lib.hid (And.intro g1 g2)
 clear hg g1 g2
 go_wp2_with fail
 go_ret
 exact ⟨q, rfl, HG.out.1, HG.out.2⟩
set_option maxHeartbeats 8000000 in
set_option maxRecDepth 100000 in
theorem landNext : Calls Try.prog 34 #[.pointer (some ⟨J.gj, 0, none⟩), Ival.span lo hi, .slice (some ⟨b, 0, none⟩) J.n J.n] w (GotB w J.n (nextB J lo hi f)) := by
 obtain ⟨W1, h1⟩ : ∃ W1, w.alloc (.cells #[.pointer (some ⟨J.gj, 0, none⟩)] 55) = W1 := ⟨_, rfl⟩
 obtain ⟨W2, h2⟩ : ∃ W2, W1.alloc (.cells #[.int .i64 lo, .int .i64 hi] 50) = W2 := ⟨_, rfl⟩
 obtain ⟨W3, h3⟩ : ∃ W3, W2.alloc (.cells #[.slice (some ⟨b, 0, none⟩) J.n J.n] 35) = W3 := ⟨_, rfl⟩
 obtain ⟨hb, x1, x2, x3⟩ := three_boxes h1 h2 h3
 have s1 : W1.heap.size = w.heap.size + 1 := by rw [← h1]; simp
 have s2 : W2.heap.size = w.heap.size + 2 := by rw [← h2]; simp [s1]
 have HE := Lib.hid (landEach J.gj J.n J.ec 59 J.EA #[.pointer (some ⟨w.heap.size + 2, 0, none⟩), .pointer (some ⟨w.heap.size + 1, 0, none⟩), .pointer (some ⟨w.heap.size, 0, none⟩)] (nextB J lo hi f) W3 (h.below hb).c1 enterNx (fun i hi0 V hV =>
  next1 J (w.heap.size + 2) (w.heap.size + 1) w.heap.size b i f lo hi V ((h.below hb).below hV) (below_cell hV (x3 0 _ rfl)) (below_cell hV (x2 0 _ rfl)) (below_cell hV (x2 1 _ rfl)) (below_cell hV (x1 0 _ rfl)) ((hr.below hb).below hV) hi0) (by have := h.hn; omega))
 have HB := Lib.hid hb
 have y1 := x1 0 _ rfl
 clear h hr hb x1 x2 x3
 go_enter Try.func34, Try.ntmps34
 go_wp2_with fail
 refine HE.out.mono ?_
 rintro e w4 hg
 obtain ⟨q, rfl, g1, g2⟩ := hg.after HB.out
 have HG := Lib.hid (And.intro g1 g2)
 clear hg g1 g2
 go_wp2_with fail
 go_ret
 exact ⟨q, rfl, HG.out.1, HG.out.2⟩
end
def bothB (k : Int) (x y : Bool) : Bool := if k = 5 then x && y else if k = 6 then x || y else !x || y
set_option maxHeartbeats 8000000 in
set_option maxRecDepth 100000 in
theorem both1 (bk ba bb b1 b2 n i : Nat) (k : Int) (f g : Nat → Bool) (w : World) (hk : k = 5 ∨ k = 6 ∨ k = 7) (x0 : w.cell? ⟨bk, 0, none⟩ = some (.int .i64 k)) (x1 : w.cell? ⟨ba, 0, none⟩ = some (.slice (some ⟨b1, 0, none⟩) n n)) (x2 : w.cell? ⟨bb, 0, none⟩ = some (.slice (some ⟨b2, 0, none⟩) n n)) (hf : RB w b1 n f) (hg : RB w b2 n g) (hin : i < n) :
  Calls Try.prog 55 #[.int .i64 ((i : Nat) : Int), .pointer (some ⟨bk, 0, none⟩), .pointer (some ⟨ba, 0, none⟩), .pointer (some ⟨bb, 0, none⟩)] w fun e w' => e = .returned (.bool (bothB k (f i) (g i))) ∧ Below w.heap.size w w' := by
 have y1 := hf i hin
 have y2 := hg i hin
 have HB0 := Lib.hid (Below.refl w.heap.size w)
 clear hf hg
 rcases hk with rfl | rfl | rfl
 all_goals
  cases hF : f i <;> cases hG : g i
  all_goals
   rw [hF] at y1
   rw [hG] at y2
   clear hF hG
   go_enter Try.func55, Try.ntmps55
   go_wp2_with fail
   go_ret
   exact ⟨rfl, HB0.out⟩
set_option maxHeartbeats 8000000 in
set_option maxRecDepth 100000 in
theorem landBoth (J : Jd) (k : Int) (b1 b2 : Nat) (f g : Nat → Bool) (w : World) (h : JW J w) (hk : k = 5 ∨ k = 6 ∨ k = 7) (hf : RB w b1 J.n f) (hg : RB w b2 J.n g) :
  Calls Try.prog 32 #[.pointer (some ⟨J.gj, 0, none⟩), .int .i64 k, .slice (some ⟨b1, 0, none⟩) J.n J.n, .slice (some ⟨b2, 0, none⟩) J.n J.n] w (GotB w J.n (fun i => bothB k (f i) (g i))) := by
 obtain ⟨W1, h1⟩ : ∃ W1, w.alloc (.cells #[.int .i64 k] 3) = W1 := ⟨_, rfl⟩
 obtain ⟨W2, h2⟩ : ∃ W2, W1.alloc (.cells #[.slice (some ⟨b1, 0, none⟩) J.n J.n] 35) = W2 := ⟨_, rfl⟩
 obtain ⟨W3, h3⟩ : ∃ W3, W2.alloc (.cells #[.slice (some ⟨b2, 0, none⟩) J.n J.n] 35) = W3 := ⟨_, rfl⟩
 obtain ⟨hb, x1, x2, x3⟩ := three_boxes h1 h2 h3
 have s1 : W1.heap.size = w.heap.size + 1 := by rw [← h1]; simp
 have s2 : W2.heap.size = w.heap.size + 2 := by rw [← h2]; simp [s1]
 have HE := Lib.hid (landEach J.gj J.n J.ec 55 J.EA #[.pointer (some ⟨w.heap.size, 0, none⟩), .pointer (some ⟨w.heap.size + 1, 0, none⟩), .pointer (some ⟨w.heap.size + 2, 0, none⟩)] (fun i => bothB k (f i) (g i)) W3 (h.below hb).c1 enterBo (fun i hi0 V hV =>
  both1 w.heap.size (w.heap.size + 1) (w.heap.size + 2) b1 b2 J.n i k f g V hk (below_cell hV (x1 0 _ rfl)) (below_cell hV (x2 0 _ rfl)) (below_cell hV (x3 0 _ rfl)) ((hf.below hb).below hV) ((hg.below hb).below hV) hi0) (by have := h.hn; omega))
 have HB := Lib.hid hb
 clear h hk hf hg hb x1 x2 x3
 go_enter Try.func32, Try.ntmps32
 go_wp2_with fail
 refine HE.out.mono ?_
 rintro e w4 hg
 obtain ⟨q, rfl, g1, g2⟩ := hg.after HB.out
 have HG := Lib.hid (And.intro g1 g2)
 clear hg g1 g2
 go_wp2_with fail
 go_ret
 exact ⟨q, rfl, HG.out.1, HG.out.2⟩
set_option maxHeartbeats 8000000 in
set_option maxRecDepth 100000 in
theorem prop1 (J : Jd) (bx bd i : Nat) (d : Int) (w : World) (h : JW J w) (hx : w.cell? ⟨bx, 0, none⟩ = some (.pointer (some ⟨J.gj, 0, none⟩))) (hd : w.cell? ⟨bd, 0, none⟩ = some (.int .i64 d)) (hin : i < J.n) :
  Calls Try.prog 53 #[.int .i64 ((i : Nat) : Int), .pointer (some ⟨bx, 0, none⟩), .pointer (some ⟨bd, 0, none⟩)] w fun e w' => e = .returned (.bool (decide (d ∈ (J.t.events.getD i noEv).ids))) ∧ Below w.heap.size w w' := by
 obtain ⟨b, off, K, c, hE, -, -, x2, hK, hKc, hcm⟩ := h.ev hin
 obtain ⟨ev, hev⟩ : ∃ ev, J.t.events.getD i noEv = ev := ⟨_, rfl⟩
 rw [hev] at x2 hK hKc ⊢
 have c1 := h.c1
 rw [hE] at c1
 obtain ⟨r, hr⟩ : ∃ r, decide (d ∈ ev.ids) = r := ⟨_, rfl⟩
 have HC := Lib.hid (containsInt K ev.ids.length c ev.ids d w.drew (Nat.le_trans hKc hcm) hK.drew)
 obtain ⟨q, hq⟩ : ∃ q, ev.ids.length = q := ⟨_, rfl⟩
 rw [hr] at HC ⊢
 rw [hq] at HC x2
 have hii : ((i : Nat) : Int) < ((J.n : Nat) : Int) := by omega
 obtain ⟨g, hg⟩ : ∃ g, J.gj = g := ⟨_, rfl⟩
 obtain ⟨n, hn⟩ : ∃ n, J.n = n := ⟨_, rfl⟩
 rw [hg] at c1 hx
 rw [hn] at c1 hii
 have HB0 := Lib.hid (Below.refl w.heap.size w)
 clear h hE hK hKc hcm hev hr hq hg hn hin
 go_enter Try.func53, Try.ntmps53
 go_wp2_with fail
 refine wp_region_held_drew (S := fun V => V.cell? ⟨bx, 0, none⟩ = some (.pointer (some ⟨g, 0, none⟩)) ∧ V.cell? ⟨g, 1, none⟩ = some (.slice (some ⟨b, off, none⟩) n J.ec) ∧ V.cell? ⟨b, off + i * 2 + 1, none⟩ = some (.slice K q c) ∧ V.cell? ⟨bd, 0, none⟩ = some (.int .i64 d)) (by kernel_rfl) ⟨hx, c1, x2, hd⟩ (fun hHeld => ?_)
 refine tkOp 0 hHeld ?_
 refine tkOp 1 hHeld ?_
 refine tkOp 2 hHeld ?_
 refine tkOp 3 hHeld ?_
 refine tkOp 4 hHeld ?_
 refine tkOp 5 hHeld ?_
 refine tkOp 6 hHeld ?_
 refine tkOp 7 hHeld ?_
 refine tkOp 8 hHeld ?_
 refine tkCall 9 (fun Kt hKt => ?_)
 go_simp
 (go_at_call 54; refine HC.out.mono ?_; rintro e w1 ⟨rfl, rfl⟩)
 refine hKt.out _ _ ?_ (fun hT => ?_)
 ·(exact ⟨hx, c1, x2, hd⟩)
 clear hKt Kt hHeld
 have hHeld := hT
 clear hT
 try simp only [Act.put, tkA, tkB, tkC]
 refine tkOp 10 hHeld ?_
 refine wpAnyH_done (by kernel_rfl) ?_ _
 clear hHeld
 go_wp2_with fail
 go_ret
 exact ⟨rfl, HB0.out.drew⟩
set_option maxHeartbeats 8000000 in
set_option maxRecDepth 100000 in
theorem landProp (J : Jd) (s : ByteArray) (w : World) (h : JW J w) :
  Calls Try.prog 29 #[.pointer (some ⟨J.gj, 0, none⟩), .string s] w (GotB w J.n (fun i => holdsT J.t ((i : Nat) : Int) s.data.toList)) := by
 obtain ⟨W1, h1⟩ : ∃ W1, w.alloc (.cells #[.pointer (some ⟨J.gj, 0, none⟩)] 55) = W1 := ⟨_, rfl⟩
 obtain ⟨d, hd⟩ : ∃ d, idxL J.t.names s.data.toList = d := ⟨_, rfl⟩
 obtain ⟨W2, h2⟩ : ∃ W2, W1.alloc (.cells #[.int .i64 d] 3) = W2 := ⟨_, rfl⟩
 have s1 : W1.heap.size = w.heap.size + 1 := by rw [← h1]; simp
 have b1 : Below w.heap.size w W1 := by rw [← h1]; exact (Below.refl _ _).alloc (Nat.le_refl _) _
 have b2 : Below W1.heap.size W1 W2 := by rw [← h2]; exact (Below.refl _ _).alloc (Nat.le_refl _) _
 have hb : Below w.heap.size w W2 := b1.trans (b2.mono (by omega))
 have x1 : W1.cell? ⟨w.heap.size, 0, none⟩ = some (.pointer (some ⟨J.gj, 0, none⟩)) := by rw [← h1]; exact box_cell 0 _ rfl
 have x2 : W2.cell? ⟨w.heap.size, 0, none⟩ = some (.pointer (some ⟨J.gj, 0, none⟩)) := below_cell b2 x1
 have x3 : W2.cell? ⟨w.heap.size + 1, 0, none⟩ = some (.int .i64 d) := by
  have x := box_cell (w := W1) (cs := #[.int .i64 d]) (T := 3) 0 _ rfl
  rwa [h2, s1] at x
 have HI := indexStr J.NA J.nn J.nc J.t.names s W1 h.tr.nlen (Nat.le_trans h.tr.ncap.1 h.tr.ncap.2) (h.tr.names.below b1)
 rw [hd] at HI
 have HI := Lib.hid HI
 have HE := Lib.hid (landEach J.gj J.n J.ec 53 J.EA #[.pointer (some ⟨w.heap.size, 0, none⟩), .pointer (some ⟨w.heap.size + 1, 0, none⟩)] (fun i => holdsT J.t ((i : Nat) : Int) s.data.toList) W2 (h.below hb).c1 enterPr (fun i hi0 V hV => by
  have := prop1 J w.heap.size (w.heap.size + 1) i d V ((h.below hb).below hV) (below_cell hV x2) (below_cell hV x3) hi0
  rw [← hd, ← holds_idx h.mt (by rw [h.tr.elen]; exact hi0) s.data.toList] at this
  exact this) (by have := h.hn; omega))
 have c0 := (h.below b1).c0
 have HB := Lib.hid hb
 obtain ⟨g, hg⟩ : ∃ g, J.gj = g := ⟨_, rfl⟩
 rw [hg] at c0 x1 x2 HE h1 ⊢
 clear h hd b1 b2 hb x3 hg
 go_enter Try.func29, Try.ntmps29
 go_wp2_with fail
 refine HI.out.mono ?_
 rintro e w5 ⟨rfl, rfl⟩
 go_wp2_with fail
 refine HE.out.mono ?_
 rintro e w4 hg
 obtain ⟨q, rfl, g1, g2⟩ := hg.after HB.out
 have HG := Lib.hid (And.intro g1 g2)
 clear hg g1 g2
 go_wp2_with fail
 go_ret
 exact ⟨q, rfl, HG.out.1, HG.out.2⟩
end Go.Proofs.Ytdbgaccnejffpaa.Sat

namespace Go.Proofs.Ytdbgaccnejffpaa.Sat
open Go.Proofs.Ytdbgaccnejffpaa.Paths
section
variable {T : Tm} {p : Nat} {k lo hi : Int} {a b : Fo}
theorem sem_o (hk : k ≠ 22) (hp : p < T.n) : sem T (.o k lo hi a) p p ↔ oneP T k lo hi (sem T a) p := by
 unfold sem
 rw [if_neg hk]
 exact ⟨fun h => h.2.2, fun h => ⟨rfl, hp, h⟩⟩
theorem sem_t (h1 : k ≠ 20) (h2 : k ≠ 21) (hp : p < T.n) : sem T (.t k lo hi a b) p p ↔ twoP T k lo hi (sem T a) (sem T b) p := by
 unfold sem
 rw [if_neg h1, if_neg h2]
 exact ⟨fun h => h.2.2, fun h => ⟨rfl, hp, h⟩⟩
theorem sem_not (hp : p < T.n) : sem T (.o 4 lo hi a) p p ↔ ¬ sem T a p p := sem_o (by decide) hp
theorem sem_prev (hp : p < T.n) : sem T (.o 8 lo hi a) p p ↔ (0 < p ∧ T.near lo hi (p - 1) p ∧ sem T a (p - 1) (p - 1)) := sem_o (by decide) hp
theorem sem_next (hp : p < T.n) : sem T (.o 9 lo hi a) p p ↔ (p + 1 < T.n ∧ T.near lo hi p (p + 1) ∧ sem T a (p + 1) (p + 1)) := sem_o (by decide) hp
theorem sem_once (hp : p < T.n) : sem T (.o 10 lo hi a) p p ↔ ∃ j, j ≤ p ∧ T.near lo hi j p ∧ sem T a j j := sem_o (by decide) hp
theorem sem_hist (hp : p < T.n) : sem T (.o 11 lo hi a) p p ↔ ∀ j, j ≤ p → T.near lo hi j p → sem T a j j := sem_o (by decide) hp
theorem sem_some (hp : p < T.n) : sem T (.o 12 lo hi a) p p ↔ ∃ j, p ≤ j ∧ j < T.n ∧ T.near lo hi p j ∧ sem T a j j := sem_o (by decide) hp
theorem sem_all (hp : p < T.n) : sem T (.o 13 lo hi a) p p ↔ ∀ j, p ≤ j → j < T.n → T.near lo hi p j → sem T a j j := sem_o (by decide) hp
theorem sem_back (hp : p < T.n) : sem T (.o 16 lo hi a) p p ↔ ∃ j, j ≤ p ∧ T.near lo hi j p ∧ sem T a j p := sem_o (by decide) hp
theorem sem_fore (hp : p < T.n) : sem T (.o 17 lo hi a) p p ↔ ∃ j, p ≤ j ∧ j < T.n ∧ T.near lo hi p j ∧ sem T a p j := sem_o (by decide) hp
theorem sem_test {q : Nat} : sem T (.o 19 lo hi a) p q ↔ q = p ∧ p < T.n ∧ sem T a p p := Iff.rfl
theorem sem_and (hp : p < T.n) : sem T (.t 5 lo hi a b) p p ↔ sem T a p p ∧ sem T b p p := sem_t (by decide) (by decide) hp
theorem sem_or (hp : p < T.n) : sem T (.t 6 lo hi a b) p p ↔ sem T a p p ∨ sem T b p p := sem_t (by decide) (by decide) hp
theorem sem_imp (hp : p < T.n) : sem T (.t 7 lo hi a b) p p ↔ (sem T a p p → sem T b p p) := sem_t (by decide) (by decide) hp
theorem sem_since (hp : p < T.n) : sem T (.t 14 lo hi a b) p p ↔ ∃ j, j ≤ p ∧ T.near lo hi j p ∧ sem T b j j ∧ ∀ q, j < q → q ≤ p → sem T a q q := sem_t (by decide) (by decide) hp
theorem sem_until (hp : p < T.n) : sem T (.t 15 lo hi a b) p p ↔ ∃ j, p ≤ j ∧ j < T.n ∧ T.near lo hi p j ∧ sem T b j j ∧ ∀ q, p ≤ q → q < j → sem T a q q := sem_t (by decide) (by decide) hp
theorem sem_true (hp : p < T.n) (s : List UInt8) : sem T (.z 1 s) p p := ⟨rfl, hp, .inl rfl⟩
theorem sem_false (s : List UInt8) : ¬ sem T (.z 2 s) p p := fun h => by
 rcases (show p = p ∧ p < T.n ∧ leafP T 2 s p from h).2.2 with e | ⟨e, -⟩
 ·exact absurd e (by decide)
 ·exact absurd e (by decide)
end
section
variable (T : Tm) (lo hi : Int) (a b r : Fo)
end
end Go.Proofs.Ytdbgaccnejffpaa.Sat

/- The walks of the landed tree's small functions: kidCount, isForm, isReg, takesReg. By an AI agent. -/
namespace Go.Proofs.Ytdbgaccnejffpaa.Tree
open Go.RowKit
theorem kidc_ways (k : Int) : ((k = 1 ∨ k = 2 ∨ k = 3 ∨ k = 18) ∧ kidc k = 0) ∨ ((k = 5 ∨ k = 6 ∨ k = 7 ∨ k = 14 ∨ k = 15 ∨ k = 20 ∨ k = 21) ∧ kidc k = 2) ∨
  ((k == 1) = false ∧ (k == 2) = false ∧ (k == 3) = false ∧ (k == 18) = false ∧ (k == 5) = false ∧ (k == 6) = false ∧ (k == 7) = false ∧ (k == 14) = false ∧ (k == 15) = false ∧ (k == 20) = false ∧ (k == 21) = false ∧ kidc k = 1) := by
 by_cases h1 : k = 1 ∨ k = 2 ∨ k = 3 ∨ k = 18
 ·exact Or.inl ⟨h1, by unfold kidc; rw [if_pos (by simp only [none0, List.mem_cons, List.not_mem_nil, or_false]; exact h1)]⟩
 ·by_cases h2 : k = 5 ∨ k = 6 ∨ k = 7 ∨ k = 14 ∨ k = 15 ∨ k = 20 ∨ k = 21
  ·exact Or.inr (Or.inl ⟨h2, by unfold kidc; rw [if_neg (by simp only [none0, List.mem_cons, List.not_mem_nil, or_false]; exact h1), if_pos (by simp only [twos, List.mem_cons, List.not_mem_nil, or_false]; exact h2)]⟩)
  ·refine Or.inr (Or.inr ?_)
   simp only [beq_eq_false_iff_ne]
   refine ⟨by omega, by omega, by omega, by omega, by omega, by omega, by omega, by omega, by omega, by omega, by omega, ?_⟩
   unfold kidc
   rw [if_neg (by simp only [none0, List.mem_cons, List.not_mem_nil, or_false]; exact h1), if_neg (by simp only [twos, List.mem_cons, List.not_mem_nil, or_false]; exact h2)]
set_option maxHeartbeats 2000000 in
theorem landKidCount (k : Int) (w : World) :
  Calls Try.prog 48 #[.int .i64 k] w fun e w' => e = .returned (.int .i64 (kidc k : Int)) ∧ w' = w := by
 rcases kidc_ways k with ⟨h, -⟩ | ⟨h, -⟩ | ⟨a1, a2, a3, a4, a5, a6, a7, a8, a9, a10, a11, h⟩
 ·rcases h with rfl | rfl | rfl | rfl
  all_goals
   go_enter Try.func48, Try.ntmps48
   go_wp2
   go_ret
   exact ⟨rfl, rfl⟩
 ·rcases h with rfl | rfl | rfl | rfl | rfl | rfl | rfl
  all_goals
   go_enter Try.func48, Try.ntmps48
   go_wp2
   go_ret
   exact ⟨rfl, rfl⟩
 ·rw [h]
  clear h
  go_enter Try.func48, Try.ntmps48
  go_wp2
  go_ret
  exact ⟨rfl, rfl⟩
theorem landIsForm (k : Int) (w : World) :
  Calls Try.prog 26 #[.int .i64 k] w fun e w' => e = .returned (.bool (formKind k)) ∧ w' = w := by
 have h : formKind k = (decide (1 ≤ k) && decide (k ≤ 17)) := Bool.decide_and _ _
 rw [h]
 by_cases h1 : 1 ≤ k
 all_goals
  go_enter Try.func26, Try.ntmps26
  go_wp2
  go_ret
  exact ⟨by first | (simp [h1]; done) | (simp; omega), rfl⟩
theorem landIsReg (k : Int) (w : World) :
  Calls Try.prog 72 #[.int .i64 k] w fun e w' => e = .returned (.bool (regKind k)) ∧ w' = w := by
 have h : regKind k = (decide (18 ≤ k) && decide (k ≤ 22)) := Bool.decide_and _ _
 rw [h]
 by_cases h1 : 18 ≤ k
 all_goals
  go_enter Try.func72, Try.ntmps72
  go_wp2
  go_ret
  exact ⟨by first | (simp [h1]; done) | (simp; omega), rfl⟩
set_option maxHeartbeats 2000000 in
theorem landTakesReg (k : Int) (w : World) :
  Calls Try.prog 75 #[.int .i64 k] w fun e w' => e = .returned (.bool (takesReg k)) ∧ w' = w := by
 by_cases h : k = 16 ∨ k = 17 ∨ k = 20 ∨ k = 21 ∨ k = 22
 ·rcases h with rfl | rfl | rfl | rfl | rfl
  all_goals
   go_enter Try.func75, Try.ntmps75
   go_wp2
   go_ret
   exact ⟨rfl, rfl⟩
 ·have e : takesReg k = false := decide_eq_false (by simp only [regs, List.mem_cons, List.not_mem_nil, or_false]; exact h)
  rw [e]
  have a1 : (k == 16) = false := beq_eq_false_iff_ne.2 (by omega)
  have a2 : (k == 17) = false := beq_eq_false_iff_ne.2 (by omega)
  have a3 : (k == 20) = false := beq_eq_false_iff_ne.2 (by omega)
  have a4 : (k == 21) = false := beq_eq_false_iff_ne.2 (by omega)
  have a5 : (k == 22) = false := beq_eq_false_iff_ne.2 (by omega)
  clear e h
  go_enter Try.func75, Try.ntmps75
  go_wp2
  go_ret
  exact ⟨rfl, rfl⟩
end Go.Proofs.Ytdbgaccnejffpaa.Tree
/- The walks of the landed tree's rightName, rightSpan, rightFields and rightKids. By an AI agent. -/
namespace Go.Proofs.Ytdbgaccnejffpaa.Tree
open Go.RowKit Go.Proofs.Ytdbgaccnejffpaa.Ints
abbrev ndV (nd : Nd) (K : Option Addr) (m c : Nat) : Value := .agg #[.int .i64 nd.kind, .string nd.name, .int .i64 nd.lo, .int .i64 nd.hi, .slice K m c]
theorem box5 {w w' : World} {x0 x1 x2 x3 x4 : Value} {T : TypeId} (hb : Below (w.alloc (.cells #[x0, x1, x2, x3, x4] T)).heap.size (w.alloc (.cells #[x0, x1, x2, x3, x4] T)) w') :
  w'.cell? ⟨w.heap.size, 0, none⟩ = some x0 ∧ w'.cell? ⟨w.heap.size, 1, none⟩ = some x1 ∧ w'.cell? ⟨w.heap.size, 2, none⟩ = some x2 ∧ w'.cell? ⟨w.heap.size, 3, none⟩ = some x3 ∧ w'.cell? ⟨w.heap.size, 4, none⟩ = some x4 :=
 ⟨below_cell hb (box_cell 0 _ rfl), below_cell hb (box_cell 1 _ rfl), below_cell hb (box_cell 2 _ rfl), below_cell hb (box_cell 3 _ rfl), below_cell hb (box_cell 4 _ rfl)⟩
theorem below_box {w w' : World} {o : Obj} (hb : Below (w.alloc o).heap.size (w.alloc o) w') : Below w.heap.size w w' :=
 ((Below.refl _ _).alloc (Nat.le_refl _) o).trans (hb.mono (by simp))
set_option maxHeartbeats 1000000 in
theorem landRightName (nd : Nd) (K : Option Addr) (m c : Nat) (w : World) (hs : nd.name.size ≤ maxLen) :
  Calls Try.prog 73 #[ndV nd K m c] w fun e w' => e = .returned (.bool (nameOkB nd)) ∧ Below w.heap.size w w' := by
 unfold nameOkB
 by_cases h3 : nd.kind = 3
 ·rw [if_pos h3]
  have h3' : (nd.kind == 3) = true := by rw [h3]; rfl
  have HN := Lib.hid (fun W => Lex.landName nd.name W hs)
  clear hs h3
  obtain ⟨b, hb⟩ : ∃ b, Lex.nameS nd.name.data.toList = b := ⟨_, rfl⟩
  rw [hb] at HN ⊢
  clear hb
  go_enter Try.func73, Try.ntmps73
  go_wp2_with (go_at_call 46; refine (HN.out _).mono ?_; rintro e w' ⟨rfl, rfl⟩)
  go_ret
  exact ⟨rfl, (Below.refl _ _).alloc (Nat.le_refl _) _⟩
 ·rw [if_neg h3]
  have h3' : (nd.kind == 3) = false := beq_eq_false_iff_ne.2 h3
  clear hs h3
  by_cases hne : nd.name.data.toList = []
  ·rw [decide_eq_true hne]
   have hn1 : nd.name.toList = [] := by rw [ByteArray.toList_eq]; exact hne
   have hn3 : nd.name.toList.isEmpty = true := by rw [hn1]; rfl
   clear hne
   go_enter Try.func73, Try.ntmps73
   go_wp2
   go_ret
   exact ⟨rfl, (Below.refl _ _).alloc (Nat.le_refl _) _⟩
  ·rw [decide_eq_false hne]
   have hn3 : nd.name.toList.isEmpty = false := by
    rw [ByteArray.toList_eq]
    cases hh : nd.name.data.toList with
    | nil => exact absurd hh hne
    | cons x y => rfl
   clear hne
   go_enter Try.func73, Try.ntmps73
   go_wp2
   go_ret
   exact ⟨rfl, (Below.refl _ _).alloc (Nat.le_refl _) _⟩
set_option maxHeartbeats 1000000 in
theorem landRightSpan (nd : Nd) (K : Option Addr) (m c : Nat) (w : World) :
  Calls Try.prog 74 #[ndV nd K m c] w fun e w' => e = .returned (.bool (okSpan nd)) ∧ Below w.heap.size w w' := by
 unfold okSpan
 rcases htm : timed nd.kind
 ·rw [if_neg (by decide)]
  have HSQ := Lib.hid (fun W => span_eql nd.lo nd.hi 0 0 W)
  have hways : decide (8 ≤ nd.kind) = false ∨ (decide (8 ≤ nd.kind) = true ∧ decide (nd.kind ≤ 17) = false) := by
   unfold timed at htm
   simp only [decide_eq_false_iff_not, decide_eq_true_iff] at htm ⊢
   omega
  obtain ⟨b, hb⟩ : ∃ b, decide (nd.lo = 0 ∧ nd.hi = 0) = b := ⟨_, rfl⟩
  rw [hb] at HSQ ⊢
  have HSQ1 := HSQ.out
  have hgs := guardSpan
  clear hb htm HSQ
  rcases hways with h8 | ⟨h8, h17⟩
  all_goals
   go_enter Try.func74, Try.ntmps74
   go_wp2
   go_ret
   exact ⟨rfl, (Below.refl _ _).alloc (Nat.le_refl _) _⟩
 ·rw [if_pos rfl]
  have h8 : decide (8 ≤ nd.kind) = true := by unfold timed at htm; have := of_decide_eq_true htm; exact decide_eq_true this.1
  have h17 : decide (nd.kind ≤ 17) = true := by unfold timed at htm; have := of_decide_eq_true htm; exact decide_eq_true this.2
  have HM := Lib.hid (fun W => Ival.progMay nd.lo nd.hi W)
  obtain ⟨b, hb⟩ : ∃ b, Ival.mayS nd.lo nd.hi = b := ⟨_, rfl⟩
  rw [hb] at HM ⊢
  clear hb htm
  go_enter Try.func74, Try.ntmps74
  go_wp2_with (go_at_call 77; refine (HM.out _).mono ?_; rintro e w' ⟨rfl, hb1⟩)
  go_ret
  exact ⟨rfl, below_box hb1⟩
set_option maxHeartbeats 2000000 in
theorem landRightFields (nd : Nd) (K : Option Addr) (m c : Nat) (w : World) (hs : nd.name.size ≤ maxLen) :
  Calls Try.prog 50 #[ndV nd K m c] w fun e w' => e = .returned (.bool (fieldsB nd)) ∧ Below w.heap.size w w' := by
 unfold fieldsB
 have H1 := Lib.hid (fun W => landIsForm nd.kind W)
 have H2 := Lib.hid (fun W => landIsReg nd.kind W)
 have H3 := Lib.hid (fun W => landRightName nd K m c W hs)
 have H4 := Lib.hid (fun W => landRightSpan nd K m c W)
 clear hs
 obtain ⟨b1, h1⟩ : ∃ b, formKind nd.kind = b := ⟨_, rfl⟩
 obtain ⟨b2, h2⟩ : ∃ b, regKind nd.kind = b := ⟨_, rfl⟩
 obtain ⟨b3, h3⟩ : ∃ b, nameOkB nd = b := ⟨_, rfl⟩
 obtain ⟨b4, h4⟩ : ∃ b, okSpan nd = b := ⟨_, rfl⟩
 rw [h1] at H1
 rw [h2] at H2
 rw [h3] at H3
 rw [h4] at H4
 rw [h1, h2, h3, h4]
 clear h1 h2 h3 h4
 have key : (b1 = false ∧ b2 = false) ∨ ((b1 = true ∨ b1 = false ∧ b2 = true) ∧ b3 = false) ∨ ((b1 = true ∨ b1 = false ∧ b2 = true) ∧ b3 = true) := by cases b1 <;> cases b2 <;> cases b3 <;> simp
 rcases key with ⟨rfl, rfl⟩ | ⟨h, rfl⟩ | ⟨h, rfl⟩
 ·go_enter Try.func50, Try.ntmps50
  go_wp2_with (first
   | (go_at_call 26; refine (H1.out _).mono ?_; rintro e w' ⟨rfl, rfl⟩)
   | (go_at_call 72; refine (H2.out _).mono ?_; rintro e w' ⟨rfl, rfl⟩))
  go_ret
  exact ⟨rfl, (Below.refl _ _).alloc (Nat.le_refl _) _⟩
 ·rcases h with rfl | ⟨rfl, rfl⟩
  all_goals
   go_enter Try.func50, Try.ntmps50
   go_wp2_with (first
    | (go_at_call 26; refine (H1.out _).mono ?_; rintro e w' ⟨rfl, rfl⟩)
    | (go_at_call 72; refine (H2.out _).mono ?_; rintro e w' ⟨rfl, rfl⟩)
    | (go_at_call 73; refine (H3.out _).mono ?_; rintro e w1 ⟨rfl, hb1⟩))
   go_ret
   exact ⟨by first | rfl | (cases b2 <;> rfl), below_box hb1⟩
 ·rcases h with rfl | ⟨rfl, rfl⟩
  all_goals
   go_enter Try.func50, Try.ntmps50
   go_wp2_with (first
    | (go_at_call 26; refine (H1.out _).mono ?_; rintro e w' ⟨rfl, rfl⟩)
    | (go_at_call 72; refine (H2.out _).mono ?_; rintro e w' ⟨rfl, rfl⟩)
    | (go_at_call 73; refine (H3.out _).mono ?_; rintro e w1 ⟨rfl, hb1⟩; obtain ⟨c0, c1, c2, c3, c4⟩ := box5 hb1)
    | (go_at_call 74; refine (H4.out _).mono ?_; rintro e w2 ⟨rfl, hb2⟩))
   go_ret
   exact ⟨by first | rfl | (cases b2 <;> rfl), (below_box hb1).trans (hb2.mono (below_box hb1).size)⟩
end Go.Proofs.Ytdbgaccnejffpaa.Tree
/- The walk of the landed tree's rightKids. By an AI agent. -/
namespace Go.Proofs.Ytdbgaccnejffpaa.Tree
open Go.RowKit Go.Proofs.Ytdbgaccnejffpaa.Ints
theorem kids_stop {l : List Nd} {n : Nd} {j : Nat} {k : Int} (h : n.kids[j]? = some k) (hb : (regKind (kindAt l k) == takesReg n.kind) = false) : kidsB l n = false := by
 unfold kidsB
 rw [List.all_eq_false]
 exact ⟨k, List.mem_of_getElem? h, by rw [hb]; decide⟩
theorem kids_all {l : List Nd} {n : Nd} (h : ∀ (j : Nat) (k : Int), n.kids[j]? = some k → (regKind (kindAt l k) == takesReg n.kind) = true) : kidsB l n = true := by
 unfold kidsB
 rw [List.all_eq_true]
 intro k hk
 obtain ⟨j, hj, rfl⟩ := List.getElem_of_mem hk
 exact h j _ (List.getElem?_eq_getElem hj)
set_option maxHeartbeats 4000000 in
set_option maxRecDepth 100000 in
theorem landRightKids (A : Option Addr) (n c : Nat) (l : List Nd) (nd : Nd) (K : Option Addr) (m ck : Nat) (w : World) (hl : l.length = n) (hn : n ≤ 1048576) (h : Nodes Any w A l) (hm : nd.kids.length = m)
  (hK : Rd .i64 w K m nd.kids) (hm2 : m ≤ 1048576) (hk : ∀ k ∈ nd.kids, 0 ≤ k ∧ k < (n : Int)) :
  Calls Try.prog 51 #[.slice A n c, ndV nd K m ck] w fun e w' => e = .returned (.bool (kidsB l nd)) ∧ Below w.heap.size w w' := by
 have hni : (n : Int) ≤ 1048576 := by omega
 have hmi : (m : Int) ≤ 1048576 := by omega
 have HTR := Lib.hid (fun W => landTakesReg nd.kind W)
 have HL := Lib.hid hl
 have HD := Lib.hid h
 have HM := Lib.hid hm
 have HK := Lib.hid hK
 have HKB := Lib.hid hk
 obtain ⟨T, hT⟩ : ∃ t, takesReg nd.kind = t := ⟨_, rfl⟩
 rw [hT] at HTR
 have HT := Lib.hid hT
 clear hl h hm hK hk hT hn
 go_enter Try.func51, Try.ntmps51
 go_wp2
 go_loopw [10] (fun i wx => ∃ j : Nat, j ≤ m ∧ i = .int .i64 j ∧ Below w.heap.size w wx ∧ wx.cell? ⟨w.heap.size, 0, none⟩ = some (.int .i64 nd.kind) ∧ Hid (∀ (i : Nat) (k : Int), i < j → nd.kids[i]? = some k → (regKind (kindAt l k) == T) = true)) (fun i _ => m - (intOf i).toNat)
 case atStart => exact ⟨0, Nat.zero_le _, rfl, (Below.refl _ _).alloc (Nat.le_refl _) _, box_cell 0 _ rfl, fun i k hi => absurd hi (by omega)⟩
 case round =>
  obtain ⟨j, hj, rfl, hBx, hx0, HJ⟩ := hrel
  have HBX := Lib.hid hBx
  by_cases hjm : j < m
  ·have hjm' : (j : Int) < (m : Int) := by omega
   have hj0 : (0 : Int) ≤ (j : Int) := by omega
   obtain ⟨kj, hkj⟩ : ∃ kj, nd.kids[j]? = some kj := ⟨_, List.getElem?_eq_getElem (by have := HM.out; omega)⟩
   obtain ⟨t0, t1⟩ := HKB.out kj (List.mem_of_getElem? hkj)
   obtain ⟨t, rfl⟩ := Int.eq_ofNat_of_zero_le t0
   obtain ⟨x, hx⟩ : ∃ x, l[t]? = some x := ⟨_, List.getElem?_eq_getElem (by have := HL.out; omega)⟩
   obtain ⟨bk, ok, eK, hkc⟩ := (HK.out.below hBx).cell (by omega)
   have ck1 := hkc j hjm
   rw [hkj, Option.getD_some] at ck1
   obtain ⟨b, off, eA, hnodes⟩ := (HD.out.below hBx) (by have := HL.out; omega)
   have cn := (hnodes t x hx).1
   rw [Nat.mul_comm] at cn
   have hka : kindAt l (t : Int) = x.kind := by unfold kindAt; rw [Int.toNat_natCast, hx]; rfl
   have HKA := Lib.hid hka
   have HKJ := Lib.hid hkj
   have HIR := Lib.hid (fun W => landIsReg x.kind W)
   subst eK
   subst eA
   obtain ⟨R, hR⟩ : ∃ r, regKind x.kind = r := ⟨_, rfl⟩
   rw [hR] at HIR
   have HR := Lib.hid hR
   clear hkc hnodes hkj hx hka hR hBx
   by_cases hRT : R = T
   ·have HJ2 := Lib.hid (show ∀ (i : Nat) (k : Int), i < j + 1 → nd.kids[i]? = some k → (regKind (kindAt l k) == T) = true from fun i k hi h1 => by
     by_cases hij : i = j
     ·subst hij
      have e1 := HKJ.out.symm.trans h1
      injection e1 with e1
      subst e1
      rw [HKA.out, HR.out, hRT]; simp
     ·exact HJ.out i k (by omega) h1)
    subst hRT
    clear HR
    cases R
    all_goals
     go_wp2
     go_quiet ((first | (go_at_call 72; refine (HIR.out _).mono ?_; rintro e w' ⟨rfl, rfl⟩; exact ⟨rfl, _, rfl⟩) | (go_at_call 75; refine (HTR.out _).mono ?_; rintro e w' ⟨rfl, rfl⟩; exact ⟨rfl, _, rfl⟩)))
     go_wp2
     go_roundw
     case rel => exact ⟨j + 1, by omega, by go_num, below_drewN HBX.out _, hx0, HJ2⟩
     case measure => simp [intOf]; omega
   ·have HF := Lib.hid (show kidsB l nd = false from kids_stop HKJ.out (by rw [HKA.out, HR.out, HT.out]; exact beq_eq_false_iff_ne.2 hRT))
    have hcase : (R = true ∧ T = false) ∨ (R = false ∧ T = true) := by cases R <;> cases T <;> simp at hRT ⊢
    clear HR HT hRT HJ
    rcases hcase with ⟨rfl, rfl⟩ | ⟨rfl, rfl⟩
    all_goals
     go_wp2
     go_quiet ((first | (go_at_call 72; refine (HIR.out _).mono ?_; rintro e w' ⟨rfl, rfl⟩; exact ⟨rfl, _, rfl⟩) | (go_at_call 75; refine (HTR.out _).mono ?_; rintro e w' ⟨rfl, rfl⟩; exact ⟨rfl, _, rfl⟩)))
     go_wp2
     go_ret
     exact ⟨by rw [HF.out]; rfl, below_drewN HBX.out _⟩
  ·have hge : decide ((j : Int) < (m : Int)) = false := by simp; omega
   have HF := Lib.hid (show kidsB l nd = true from kids_all fun i k h1 => by rw [HT.out]; exact HJ.out i k (by have := (List.getElem?_eq_some_iff.1 h1).1; have := HM.out; omega) h1)
   clear hBx
   go_wp2
   go_ret
   exact ⟨by rw [HF.out]; rfl, HBX.out⟩
end Go.Proofs.Ytdbgaccnejffpaa.Tree
