/-
  The walk of the landed reader's span. By an AI agent.
-/
import Derived.Test.YthcbgneoonekkaaGreatDoorGShowBack26
namespace Go.Proofs.YthcbgneoonekkaaGreatDoor.Parse
open Go.RowKit Go.Proofs.YthcbgneoonekkaaGreatDoor.Ints Go.Proofs.YthcbgneoonekkaaGreatDoor.Lex Go.Proofs.YthcbgneoonekkaaGreatDoor.Tree

/-- What span holds on its way: the reader, its result's block, its interval's block. -/
structure Sp (w : World) (base g : Nat) (ts : List Tk) (lo hi : Int) (W : World) (σ : PS) : Prop where
  mem : PMemE (fun b => b < w.heap.size) W base g ts σ
  res : Blk W w.heap.size [.int .i64 0, .int .i64 0]
  box : Blk W (w.heap.size + 1) [.int .i64 lo, .int .i64 hi]
  fr : w.grownBy W (some g)
  hb : base ≤ w.heap.size
  hg : g < w.heap.size
section
variable {w W W' : World} {base g : Nat} {ts : List Tk} {lo hi : Int} {σ σ' : PS}
theorem Sp.later (h : Sp w base g ts lo hi W σ) (hb : Below W.heap.size W W') : Sp w base g ts lo hi W' σ :=
  ⟨h.mem.later hb, h.res.later hb, h.box.later hb, ⟨hb.os.trans h.fr.os, hb.tape.trans h.fr.tape, hb.output.trans h.fr.output, Nat.le_trans h.fr.size hb.size, fun i hi' hne => (hb.block i (Nat.lt_of_lt_of_le hi' h.fr.size)).trans (h.fr.block i hi' hne)⟩, h.hb, h.hg⟩
theorem Sp.take (h : Sp w base g ts lo hi W σ) (hm : PMemE (fun b => b < w.heap.size) W' base g ts σ') (hg : W.grownBy W' (some g)) : Sp w base g ts lo hi W' σ' :=
  ⟨hm, h.res.grown hg (fun e => by injection e with e; have := h.hg; omega), h.box.grown hg (fun e => by injection e with e; have := h.hg; omega), ⟨hg.os.trans h.fr.os, hg.tape.trans h.fr.tape, hg.output.trans h.fr.output, Nat.le_trans h.fr.size hg.size, fun i hi' hne => (hg.block i (Nat.lt_of_lt_of_le hi' h.fr.size) hne).trans (h.fr.block i hi' hne)⟩, h.hb, h.hg⟩
theorem Sp.number (h : Sp w base g ts lo hi W σ) (hm : PMemE (fun b => b < w.heap.size) W' base g ts σ') {lo' hi' : Int} (hx : Blk W' (w.heap.size + 1) [.int .i64 lo', .int .i64 hi']) (hs : W.heap.size ≤ W'.heap.size) (hb : Below base W W')
    (hf : ∀ i, i < W.heap.size → i ≠ g → i ≠ w.heap.size + 1 → W'.heap[i]? = W.heap[i]?) : Sp w base g ts lo' hi' W' σ' :=
  ⟨hm, h.res.same hs (hf _ h.res.1 (by have := h.hg; omega) (by omega)), hx, ⟨hb.os.trans h.fr.os, hb.tape.trans h.fr.tape, hb.output.trans h.fr.output, Nat.le_trans h.fr.size hs, fun i hi' hne => (hf i (Nat.lt_of_lt_of_le hi' h.fr.size) (fun e => hne (by rw [e])) (by omega)).trans (h.fr.block i hi' hne)⟩, h.hb, h.hg⟩
end
theorem sp_start {w : World} {base g : Nat} {ts : List Tk} {σ : PS} (h : PMemE Any w base g ts σ) : Sp w base g ts 0 (-1) ((w.alloc (.cells #[.int .i64 0, .int .i64 0] 40)).alloc (.cells #[.int .i64 0, .int .i64 (-1)] 40)) σ := by
  have hb : Below w.heap.size w ((w.alloc (.cells #[.int .i64 0, .int .i64 0] 40)).alloc (.cells #[.int .i64 0, .int .i64 (-1)] 40)) := ((Below.refl _ _).alloc (Nat.le_refl _) _).alloc (by simp) _
  refine ⟨h.now.later hb, (Blk.new _ _ _ _ rfl).alloc _, ?_, ⟨hb.os, hb.tape, hb.output, hb.size, fun i hi _ => hb.block i hi⟩, h.base, h.hg.2⟩
  have := Blk.new (w.alloc (.cells #[.int .i64 0, .int .i64 0] 40)) #[.int .i64 0, .int .i64 (-1)] 40 _ rfl
  simpa using this
/-- What span leaves. -/
def SpanGot (w : World) (base g : Nat) (ts : List Tk) (σ : PS) (x : Except Fail (Int × Int × List Tk)) (e : Ending) (w' : World) : Prop := match x with
  | .ok (lo, hi, r) => e = .returned (.tuple #[.agg #[.int .i64 lo, .int .i64 hi], .int .i64 0]) ∧ PMemE Any w' base g ts { σ with rest := r } ∧ w.grownBy w' (some g)
  | .error (c, p) => c = 2 ∧ e = .returned (.tuple #[.agg #[.int .i64 0, .int .i64 0], .int .i64 2]) ∧ ∃ q, GoodT q ∧ posOf q = p ∧ PMemE Any w' base g ts { σ with rest := q } ∧ w.grownBy w' (some g)

/-- The end: the result is written. -/
def spEnd (w W : World) (x y : Int) : World := (W.setCell ⟨w.heap.size, 0, none⟩ (.int .i64 x)).setCell ⟨w.heap.size, 1, none⟩ (.int .i64 y)
theorem Sp.done {w W : World} {base g : Nat} {ts : List Tk} {lo hi : Int} {σ : PS} (h : Sp w base g ts lo hi W σ) (x y : Int) :
    (spEnd w W x y).cell? ⟨w.heap.size, 0, none⟩ = some (.int .i64 x) ∧ (spEnd w W x y).cell? ⟨w.heap.size, 1, none⟩ = some (.int .i64 y) ∧ PMemE Any (spEnd w W x y) base g ts σ ∧ w.grownBy (spEnd w W x y) (some g) := by
  have hb := (h.res.set 0 (.int .i64 x) (by decide)).set 1 (.int .i64 y) (by simp)
  refine ⟨hb.cell 0 rfl, hb.cell 1 rfl, ?_, h.fr.os, h.fr.tape, h.fr.output, by unfold spEnd; simpa using h.fr.size, fun i hi' hne => ?_⟩
  · obtain ⟨tv, ov, nv, rv, SN, hm⟩ := h.mem
    exact ⟨tv, ov, nv, rv, SN, ((hm.far _ 0 _ (Nat.lt_irrefl _) h.hb).far _ 1 _ (Nat.lt_irrefl _) h.hb).mono fun _ _ _ => trivial⟩
  · exact ((Below.heap_setCell _ ⟨w.heap.size, 1, none⟩ _ i (Nat.ne_of_lt hi')).trans (Below.heap_setCell _ ⟨w.heap.size, 0, none⟩ _ i (Nat.ne_of_lt hi'))).trans (h.fr.block i hi' hne)

set_option maxHeartbeats 4000000 in
theorem landSpan0 (base g : Nat) (ts : List Tk) (σ : PS) (k : Nat) (w : World) (h : PMemE Any w base g ts σ) (hk : k < 8 ∨ 17 < k) :
    Calls Tryz.prog 89 #[.pointer (some ⟨g, 0, none⟩), .int .i64 (k : Int)] w (SpanGot w base g ts σ (.ok (0, 0, σ.rest))) := by
  have hp : ∀ o, SpanGot w base g ts σ (.ok (0, 0, σ.rest)) (.returned (.tuple #[.agg #[.int .i64 0, .int .i64 0], .int .i64 0])) (w.alloc o) := fun o =>
    ⟨rfl, h.later ((Below.refl _ _).alloc (Nat.le_refl _) _), World.grownBy_alloc w o _⟩
  have HP := Lib.hid hp
  by_cases h8 : k < 8
  · have hi8 : (k : Int) < 8 := by omega
    clear h hk h8 hp
    go_enter Tryz.func89, Tryz.ntmps89
    go_wp2
    exact bodyPost_ret (v := .tuple #[.agg #[.int .i64 0, .int .i64 0], .int .i64 0]) (by simp [results, Tryz.results89, go_sem]) rfl (HP.out _)
  · have hi8 : decide ((k : Int) < 8) = false := decide_eq_false (by omega)
    have hi17 : (17 : Int) < (k : Int) := by omega
    clear h hk h8 hp
    go_enter Tryz.func89, Tryz.ntmps89
    go_wp2
    exact bodyPost_ret (v := .tuple #[.agg #[.int .i64 0, .int .i64 0], .int .i64 0]) (by simp [results, Tryz.results89, go_sem]) rfl (HP.out _)

/-! ### what an interval is, word by word -/
section
variable {k : Nat} {t t1 t2 t3 t4 : Tk} {r r5 : List Tk}
theorem span_no (hk : 8 ≤ k ∧ k ≤ 17) (h : textOf r ≠ [91]) : spanM k r = .ok (0, -1, r) := by
  unfold spanM
  rw [if_neg (by omega), if_pos h]
theorem span_1 (hk : 8 ≤ k ∧ k ≤ 17) (h : t.text = [91]) (h1 : t1.kind ≠ 2) : spanM k (t :: t1 :: r) = .error (2, t1.pos) := by
  unfold spanM
  rw [if_neg (by omega), if_neg (by simpa [textOf] using h)]
  simp [kindOf, posOf, h1]
theorem span_2 (hk : 8 ≤ k ∧ k ≤ 17) (h : t.text = [91]) (h1 : t1.kind = 2) (h2 : t2.text ≠ [44]) : spanM k (t :: t1 :: t2 :: r) = .error (2, t2.pos) := by
  unfold spanM
  rw [if_neg (by omega), if_neg (by simpa [textOf] using h)]
  simp [kindOf, posOf, textOf, h1, h2]
theorem span_3 (hk : 8 ≤ k ∧ k ≤ 17) (h : t.text = [91]) (h1 : t1.kind = 2) (h2 : t2.text = [44]) (h3 : t3.text = [42]) (h4 : t4.text ≠ [93]) : spanM k (t :: t1 :: t2 :: t3 :: t4 :: r) = .error (2, t4.pos) := by
  unfold spanM
  rw [if_neg (by omega), if_neg (by simpa [textOf] using h)]
  simp [kindOf, posOf, textOf, h1, h2, h3, h4]
theorem span_4 (hk : 8 ≤ k ∧ k ≤ 17) (h : t.text = [91]) (h1 : t1.kind = 2) (h2 : t2.text = [44]) (h3 : t3.text = [42]) (h4 : t4.text = [93]) : spanM k (t :: t1 :: t2 :: t3 :: t4 :: r) = .ok ((t1.num : Int), -1, r) := by
  unfold spanM
  rw [if_neg (by omega), if_neg (by simpa [textOf] using h)]
  simp [kindOf, numAt, textOf, h1, h2, h3, h4]
theorem span_5 (hk : 8 ≤ k ∧ k ≤ 17) (h : t.text = [91]) (h1 : t1.kind = 2) (h2 : t2.text = [44]) (h3 : t3.text ≠ [42]) (h4 : t3.kind ≠ 2 ∨ (t3.num : Int) < (t1.num : Int)) : spanM k (t :: t1 :: t2 :: t3 :: r) = .error (2, t3.pos) := by
  unfold spanM
  rw [if_neg (by omega), if_neg (by simpa [textOf] using h)]
  have h5 : ¬ t3.kind = 2 ∨ t3.num < t1.num := by omega
  simp [kindOf, posOf, textOf, numAt, h1, h2, h3, h5]
theorem span_6 (hk : 8 ≤ k ∧ k ≤ 17) (h : t.text = [91]) (h1 : t1.kind = 2) (h2 : t2.text = [44]) (h3 : t3.text ≠ [42]) (h4 : t3.kind = 2) (h5 : (t1.num : Int) ≤ (t3.num : Int)) (h6 : t4.text ≠ [93]) : spanM k (t :: t1 :: t2 :: t3 :: t4 :: r) = .error (2, t4.pos) := by
  unfold spanM
  rw [if_neg (by omega), if_neg (by simpa [textOf] using h)]
  have h7 : ¬ (t3.num < t1.num) := by omega
  simp [kindOf, posOf, textOf, numAt, h1, h2, h3, h4, h6, h7]
theorem span_7 (hk : 8 ≤ k ∧ k ≤ 17) (h : t.text = [91]) (h1 : t1.kind = 2) (h2 : t2.text = [44]) (h3 : t3.text ≠ [42]) (h4 : t3.kind = 2) (h5 : (t1.num : Int) ≤ (t3.num : Int)) (h6 : t4.text = [93]) : spanM k (t :: t1 :: t2 :: t3 :: t4 :: r) = .ok ((t1.num : Int), (t3.num : Int), r) := by
  unfold spanM
  rw [if_neg (by omega), if_neg (by simpa [textOf] using h)]
  have h7 : ¬ (t3.num < t1.num) := by omega
  simp [kindOf, textOf, numAt, h1, h2, h3, h4, h6, h7]
end

set_option maxHeartbeats 16000000 in
theorem landSpan1 (base g : Nat) (ts : List Tk) (σ : PS) (k : Nat) (w : World) (h : PMemE Any w base g ts σ) (hk : 8 ≤ k ∧ k ≤ 17) (hl : ts.length ≤ 5000) (hG : GoodT σ.rest) :
    Calls Tryz.prog 89 #[.pointer (some ⟨g, 0, none⟩), .int .i64 (k : Int)] w (SpanGot w base g ts σ (spanM k σ.rest)) := by
  have H0 := Lib.hid (sp_start h)
  have HG := Lib.hid hG
  have HL := Lib.hid hl
  have HK := Lib.hid hk
  have hi8 : decide ((k : Int) < 8) = false := decide_eq_false (by omega)
  have hi17 : decide ((17 : Int) < (k : Int)) = false := decide_eq_false (by omega)
  obtain ⟨t, r, hr, -, -, -, -⟩ := hG.split
  have HR := Lib.hid hr
  clear h hk hl hG hr
  go_enter Tryz.func89, Tryz.ntmps89
  go_wp2_with fail
  by_cases h91 : t.text = [91]
  · have HU := Lib.hid h91
    have HT := Lib.hid h91
    have hg1 := HG.out
    rw [HR.out] at hg1
    have hg1 := hg1.next (by show t.text ≠ []; rw [h91]; decide)
    obtain ⟨t1, r1, hr1, -, -, -, -⟩ := GoodT.split (ts := r) hg1
    subst hr1
    have HG1 := Lib.hid (show GoodT (t1 :: r1) from hg1)
    clear h91 hg1
    refine (landTake base g ts σ t (t1 :: r1) [91] _ H0.out.mem HR.out HL.out HU.out).mono ?_
    rintro e w1 ⟨rfl, hm, hb⟩
    have H1 := Lib.hid (H0.out.take hm hb)
    clear hm hb
    clear HU
    go_wp2_with fail
    by_cases hk1 : t1.kind = 2
    · have HK1 := Lib.hid hk1
      have hg2 := HG1.out.tail (by show t1.kind ≠ 0; omega)
      obtain ⟨t2, r2, hr2, -, -, -, -⟩ := GoodT.split (ts := r1) hg2
      subst hr2
      have HG2 := Lib.hid (show GoodT (t2 :: r2) from hg2)
      clear hk1 hg2
      refine (landNumber base g ts { σ with rest := (t1 :: t2 :: r2) } t1 (t2 :: r2) _ 0 _ _ 0 _ H1.out.mem rfl HL.out H1.out.box rfl (by simp) (Nat.le_succ_of_le H1.out.hb) HK1.out (by omega)).mono ?_
      rintro e w2 ⟨rfl, hm, hx, hs, hb, hf⟩
      have H2 := Lib.hid (H1.out.number hm hx hs hb hf)
      clear hm hx hs hb hf
      go_wp2_with fail
      by_cases h44 : t2.text = [44]
      · have HU := Lib.hid h44
        have H44 := Lib.hid h44
        have hg3 := HG2.out.next (by show t2.text ≠ []; rw [h44]; decide)
        obtain ⟨t3, r3, hr3, -, -, -, -⟩ := GoodT.split (ts := r2) hg3
        subst hr3
        have HG3 := Lib.hid (show GoodT (t3 :: r3) from hg3)
        have HR2 := Lib.hid (rfl : t2 :: t3 :: r3 = t2 :: t3 :: r3)
        clear h44 hg3
        refine (landTake base g ts { σ with rest := (t2 :: t3 :: r3) } t2 (t3 :: r3) [44] _ H2.out.mem HR2.out HL.out HU.out).mono ?_
        rintro e w3 ⟨rfl, hm, hb⟩
        have H3 := Lib.hid (H2.out.take hm hb)
        clear hm hb
        clear HU
        go_wp2_with fail
        have HR3 := Lib.hid (rfl : t3 :: r3 = t3 :: r3)
        by_cases h42 : t3.text = [42]
        · have HU := Lib.hid h42
          have H42 := Lib.hid h42
          have hg4 := HG3.out.next (by show t3.text ≠ []; rw [h42]; decide)
          obtain ⟨t4, r4, hr4, -, -, -, -⟩ := GoodT.split (ts := r3) hg4
          subst hr4
          have HG4 := Lib.hid (show GoodT (t4 :: r4) from hg4)
          clear h42 hg4
          refine (landTake base g ts { σ with rest := (t3 :: t4 :: r4) } t3 (t4 :: r4) [42] _ H3.out.mem HR3.out HL.out HU.out).mono ?_
          rintro e w4 ⟨rfl, hm, hb⟩
          have H4 := Lib.hid (H3.out.take hm hb)
          clear hm hb
          clear HU
          go_wp2_with fail
          have HR4 := Lib.hid (rfl : t4 :: r4 = t4 :: r4)
          by_cases h93 : t4.text = [93]
          · have HU := Lib.hid h93
            clear h93
            refine (landTake base g ts { σ with rest := (t4 :: r4) } t4 r4 [93] _ H4.out.mem HR4.out HL.out HU.out).mono ?_
            rintro e w5 ⟨rfl, hm, hb⟩
            have H5 := Lib.hid (H4.out.take hm hb)
            clear hm hb
            have c0 := H5.out.res.cell 0 rfl
            have c1 := H5.out.res.cell 1 rfl
            have f0 := H5.out.res.fz 0 rfl
            have f1 := H5.out.res.fz 1 rfl
            have b0 := H5.out.box.cell 0 rfl
            have b1 := H5.out.box.cell 1 rfl
            obtain ⟨d0, d1, d2, d3⟩ := H5.out.done ((t1.num : Int)) (-1)
            have HD := Lib.hid (And.intro d2 d3)
            unfold spEnd at d0 d1 HD
            clear d2 d3
            go_wp2_with fail
            have hE := span_4 (r := r4) HK.out HT.out HK1.out H44.out H42.out HU.out; rw [← HR.out] at hE
            exact bodyPost_ret (v := .tuple #[.agg #[.int .i64 ((t1.num : Int)), .int .i64 (-1)], .int .i64 0]) (by simp [results, Tryz.results89, go_sem, d0, d1]) rfl (by rw [hE]; exact ⟨rfl, HD.out.1, HD.out.2⟩)
          · have HN := Lib.hid h93
            clear h93
            refine (landTakeNo base g ts { σ with rest := (t4 :: r4) } t4 r4 [93] _ H4.out.mem HR4.out HL.out HN.out).mono ?_
            rintro e w5 ⟨rfl, hm, hb⟩
            have H5 := Lib.hid (H4.out.later hb)
            clear hm hb
            have c0 := H5.out.res.cell 0 rfl
            have c1 := H5.out.res.cell 1 rfl
            have f0 := H5.out.res.fz 0 rfl
            have f1 := H5.out.res.fz 1 rfl
            have b0 := H5.out.box.cell 0 rfl
            have b1 := H5.out.box.cell 1 rfl
            obtain ⟨d0, d1, d2, d3⟩ := H5.out.done (0) (0)
            have HD := Lib.hid (And.intro d2 d3)
            unfold spEnd at d0 d1 HD
            clear d2 d3
            go_wp2_with fail
            have hE := span_3 (r := r4) HK.out HT.out HK1.out H44.out H42.out HN.out; rw [← HR.out] at hE
            exact bodyPost_ret (v := .tuple #[.agg #[.int .i64 (0), .int .i64 (0)], .int .i64 2]) (by simp [results, Tryz.results89, go_sem, d0, d1]) rfl (by rw [hE]; exact ⟨rfl, rfl, t4 :: r4, HG4.out, rfl, HD.out.1, HD.out.2⟩)
        · have HN := Lib.hid h42
          have H42 := Lib.hid h42
          clear h42
          refine (landTakeNo base g ts { σ with rest := (t3 :: r3) } t3 r3 [42] _ H3.out.mem HR3.out HL.out HN.out).mono ?_
          rintro e w4 ⟨rfl, hm, hb⟩
          have H4 := Lib.hid (H3.out.later hb)
          clear hm hb
          clear HN
          have b0 := H4.out.box.cell 0 rfl
          go_wp2_with fail
          by_cases hn3 : t3.kind = 2 ∧ (t1.num : Int) ≤ (t3.num : Int)
          · have HN3 := Lib.hid hn3
            have hg4 := HG3.out.tail (by show t3.kind ≠ 0; omega)
            obtain ⟨t4, r4, hr4, -, -, -, -⟩ := GoodT.split (ts := r3) hg4
            subst hr4
            have HG4 := Lib.hid (show GoodT (t4 :: r4) from hg4)
            clear hn3 hg4 b0
            refine (landNumber base g ts { σ with rest := (t3 :: t4 :: r4) } t3 (t4 :: r4) _ 1 _ _ _ _ H4.out.mem rfl HL.out H4.out.box rfl (by simp) (Nat.le_succ_of_le H4.out.hb) HN3.out.1 HN3.out.2).mono ?_
            rintro e w5 ⟨rfl, hm, hx, hs, hb, hf⟩
            have H5 := Lib.hid (H4.out.number hm hx hs hb hf)
            clear hm hx hs hb hf
            go_wp2_with fail
            have HR4 := Lib.hid (rfl : t4 :: r4 = t4 :: r4)
            by_cases h93 : t4.text = [93]
            · have HU := Lib.hid h93
              clear h93
              refine (landTake base g ts { σ with rest := (t4 :: r4) } t4 r4 [93] _ H5.out.mem HR4.out HL.out HU.out).mono ?_
              rintro e w6 ⟨rfl, hm, hb⟩
              have H6 := Lib.hid (H5.out.take hm hb)
              clear hm hb
              have c0 := H6.out.res.cell 0 rfl
              have c1 := H6.out.res.cell 1 rfl
              have f0 := H6.out.res.fz 0 rfl
              have f1 := H6.out.res.fz 1 rfl
              have b0 := H6.out.box.cell 0 rfl
              have b1 := H6.out.box.cell 1 rfl
              obtain ⟨d0, d1, d2, d3⟩ := H6.out.done ((t1.num : Int)) ((t3.num : Int))
              have HD := Lib.hid (And.intro d2 d3)
              unfold spEnd at d0 d1 HD
              clear d2 d3
              go_wp2_with fail
              have hE := span_7 (r := r4) HK.out HT.out HK1.out H44.out H42.out HN3.out.1 HN3.out.2 HU.out; rw [← HR.out] at hE
              exact bodyPost_ret (v := .tuple #[.agg #[.int .i64 ((t1.num : Int)), .int .i64 ((t3.num : Int))], .int .i64 0]) (by simp [results, Tryz.results89, go_sem, d0, d1]) rfl (by rw [hE]; exact ⟨rfl, HD.out.1, HD.out.2⟩)
            · have HN := Lib.hid h93
              clear h93
              refine (landTakeNo base g ts { σ with rest := (t4 :: r4) } t4 r4 [93] _ H5.out.mem HR4.out HL.out HN.out).mono ?_
              rintro e w6 ⟨rfl, hm, hb⟩
              have H6 := Lib.hid (H5.out.later hb)
              clear hm hb
              have c0 := H6.out.res.cell 0 rfl
              have c1 := H6.out.res.cell 1 rfl
              have f0 := H6.out.res.fz 0 rfl
              have f1 := H6.out.res.fz 1 rfl
              have b0 := H6.out.box.cell 0 rfl
              have b1 := H6.out.box.cell 1 rfl
              obtain ⟨d0, d1, d2, d3⟩ := H6.out.done (0) (0)
              have HD := Lib.hid (And.intro d2 d3)
              unfold spEnd at d0 d1 HD
              clear d2 d3
              go_wp2_with fail
              have hE := span_6 (r := r4) HK.out HT.out HK1.out H44.out H42.out HN3.out.1 HN3.out.2 HN.out; rw [← HR.out] at hE
              exact bodyPost_ret (v := .tuple #[.agg #[.int .i64 (0), .int .i64 (0)], .int .i64 2]) (by simp [results, Tryz.results89, go_sem, d0, d1]) rfl (by rw [hE]; exact ⟨rfl, rfl, t4 :: r4, HG4.out, rfl, HD.out.1, HD.out.2⟩)
          · have HN3 := Lib.hid (show t3.kind ≠ 2 ∨ (t3.num : Int) < (t1.num : Int) by omega)
            clear hn3 b0
            refine (landNumberNo base g ts { σ with rest := (t3 :: r3) } t3 r3 _ _ _ H4.out.mem rfl HL.out HN3.out).mono ?_
            rintro e w5 ⟨rfl, hm, hb⟩
            have H5 := Lib.hid (H4.out.later hb)
            clear hm hb
            have c0 := H5.out.res.cell 0 rfl
            have c1 := H5.out.res.cell 1 rfl
            have f0 := H5.out.res.fz 0 rfl
            have f1 := H5.out.res.fz 1 rfl
            have b0 := H5.out.box.cell 0 rfl
            have b1 := H5.out.box.cell 1 rfl
            obtain ⟨d0, d1, d2, d3⟩ := H5.out.done (0) (0)
            have HD := Lib.hid (And.intro d2 d3)
            unfold spEnd at d0 d1 HD
            clear d2 d3
            go_wp2_with fail
            have hE := span_5 (r := r3) HK.out HT.out HK1.out H44.out H42.out HN3.out; rw [← HR.out] at hE
            exact bodyPost_ret (v := .tuple #[.agg #[.int .i64 (0), .int .i64 (0)], .int .i64 2]) (by simp [results, Tryz.results89, go_sem, d0, d1]) rfl (by rw [hE]; exact ⟨rfl, rfl, t3 :: r3, HG3.out, rfl, HD.out.1, HD.out.2⟩)
      · have HN := Lib.hid h44
        clear h44
        have HR2 := Lib.hid (rfl : t2 :: r2 = t2 :: r2)
        refine (landTakeNo base g ts { σ with rest := (t2 :: r2) } t2 r2 [44] _ H2.out.mem HR2.out HL.out HN.out).mono ?_
        rintro e w3 ⟨rfl, hm, hb⟩
        have H3 := Lib.hid (H2.out.later hb)
        clear hm hb
        have c0 := H3.out.res.cell 0 rfl
        have c1 := H3.out.res.cell 1 rfl
        have f0 := H3.out.res.fz 0 rfl
        have f1 := H3.out.res.fz 1 rfl
        have b0 := H3.out.box.cell 0 rfl
        have b1 := H3.out.box.cell 1 rfl
        obtain ⟨d0, d1, d2, d3⟩ := H3.out.done (0) (0)
        have HD := Lib.hid (And.intro d2 d3)
        unfold spEnd at d0 d1 HD
        clear d2 d3
        go_wp2_with fail
        have hE := span_2 (r := r2) HK.out HT.out HK1.out HN.out; rw [← HR.out] at hE
        exact bodyPost_ret (v := .tuple #[.agg #[.int .i64 (0), .int .i64 (0)], .int .i64 2]) (by simp [results, Tryz.results89, go_sem, d0, d1]) rfl (by rw [hE]; exact ⟨rfl, rfl, t2 :: r2, HG2.out, rfl, HD.out.1, HD.out.2⟩)
    · have HK1 := Lib.hid hk1
      clear hk1
      refine (landNumberNo base g ts { σ with rest := (t1 :: r1) } t1 r1 _ _ _ H1.out.mem rfl HL.out (Or.inl HK1.out)).mono ?_
      rintro e w2 ⟨rfl, hm, hb⟩
      have H2 := Lib.hid (H1.out.later hb)
      clear hm hb
      have c0 := H2.out.res.cell 0 rfl
      have c1 := H2.out.res.cell 1 rfl
      have f0 := H2.out.res.fz 0 rfl
      have f1 := H2.out.res.fz 1 rfl
      have b0 := H2.out.box.cell 0 rfl
      have b1 := H2.out.box.cell 1 rfl
      obtain ⟨d0, d1, d2, d3⟩ := H2.out.done (0) (0)
      have HD := Lib.hid (And.intro d2 d3)
      unfold spEnd at d0 d1 HD
      clear d2 d3
      go_wp2_with fail
      have hE := span_1 (r := r1) HK.out HT.out HK1.out; rw [← HR.out] at hE
      exact bodyPost_ret (v := .tuple #[.agg #[.int .i64 (0), .int .i64 (0)], .int .i64 2]) (by simp [results, Tryz.results89, go_sem, d0, d1]) rfl (by rw [hE]; exact ⟨rfl, rfl, t1 :: r1, HG1.out, rfl, HD.out.1, HD.out.2⟩)
  · have HN := Lib.hid h91
    clear h91
    refine (landTakeNo base g ts σ t r [91] _ H0.out.mem HR.out HL.out HN.out).mono ?_
    rintro e w1 ⟨rfl, hm, hb⟩
    have H1 := Lib.hid (H0.out.later hb)
    clear hm hb
    have c0 := H1.out.res.cell 0 rfl
    have c1 := H1.out.res.cell 1 rfl
    have f0 := H1.out.res.fz 0 rfl
    have f1 := H1.out.res.fz 1 rfl
    have b0 := H1.out.box.cell 0 rfl
    have b1 := H1.out.box.cell 1 rfl
    obtain ⟨d0, d1, d2, d3⟩ := H1.out.done (0) (-1)
    have HD := Lib.hid (And.intro d2 d3)
    unfold spEnd at d0 d1 HD
    clear d2 d3
    go_wp2_with fail
    have hE := span_no (r := σ.rest) HK.out (by rw [HR.out]; exact HN.out)
    exact bodyPost_ret (v := .tuple #[.agg #[.int .i64 (0), .int .i64 (-1)], .int .i64 0]) (by simp [results, Tryz.results89, go_sem, d0, d1]) rfl (by rw [hE]; exact ⟨rfl, HD.out.1, HD.out.2⟩)
theorem landSpan (base g : Nat) (ts : List Tk) (σ : PS) (k : Nat) (w : World) (h : PMemE Any w base g ts σ) (hl : ts.length ≤ 5000) (hG : GoodT σ.rest) :
    Calls Tryz.prog 89 #[.pointer (some ⟨g, 0, none⟩), .int .i64 (k : Int)] w (SpanGot w base g ts σ (spanM k σ.rest)) := by
  by_cases hk : k < 8 ∨ 17 < k
  · have e : spanM k σ.rest = .ok (0, 0, σ.rest) := by unfold spanM; rw [if_pos hk]
    rw [e]
    exact landSpan0 base g ts σ k w h hk
  · exact landSpan1 base g ts σ k w h (by omega) hl hG
end Go.Proofs.YthcbgneoonekkaaGreatDoor.Parse
