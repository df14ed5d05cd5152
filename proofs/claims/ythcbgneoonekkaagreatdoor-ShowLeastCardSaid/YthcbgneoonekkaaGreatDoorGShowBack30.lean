/-
  The walk of the landed reader's operator. By an AI agent.
  The walk of the landed reader's shut. By an AI agent.
-/
import Derived.Test.YthcbgneoonekkaaGreatDoorGShowBack29
namespace Go.Proofs.YthcbgneoonekkaaGreatDoor.Parse
open Go.RowKit Go.Proofs.YthcbgneoonekkaaGreatDoor.Ints Go.Proofs.YthcbgneoonekkaaGreatDoor.Lex Go.Proofs.YthcbgneoonekkaaGreatDoor.Tree
attribute [local go_sem ↓] Go.wp_at_zero Go.wp_at_succ

theorem PMemE.cells {S : Nat → Prop} {w : World} {base g : Nat} {ts : List Tk} {σ : PS} (h : PMemE S w base g ts σ) : ∃ v, w.cell? ⟨g, 2, none⟩ = some v ∧ w.frozen? ⟨g, 2, none⟩ = false := by
  obtain ⟨tv, ov, nv, rv, SN, h⟩ := h
  exact ⟨_, h.blk.cell 2 rfl, h.blk.fz 2 rfl⟩
theorem PMemE.ended {S : Nat → Prop} {w : World} {base g : Nat} {ts : List Tk} {σ : PS} (h : PMemE S w base g ts σ) (b : Bool) : PMemE S (w.setCell ⟨g, 2, none⟩ (.bool b)) base g ts { σ with ended := b } := by
  obtain ⟨tv, ov, nv, rv, SN, h⟩ := h
  exact ⟨_, _, _, _, _, h.store (σ' := { σ with ended := b }) 2 (.bool b) rfl (by decide) h.suf rfl rfl rfl⟩

def operEnd (k lev : Nat) (lo hi : Int) (τ : PS) : PS := { pushM ⟨k, lo, hi, 2, lev, [], (topE τ.opn).reg, (topE τ.opn).depth⟩ τ with ended := false }

set_option maxHeartbeats 16000000 in
set_option maxRecDepth 100000 in
theorem landOper (base g M : Nat) (ts : List Tk) (σ : PS) (k lev : Nat) (w : World) (h : PMemE (Aw none) w base g ts σ) (hf : Fit M 1 σ) (hM : M ≤ 5000) (hl : ts.length ≤ 5000) (hk : kindOf σ.rest ≠ 0) (hlev : 1 ≤ lev) :
    Calls Tryz.prog 72 #[.pointer (some ⟨g, 0, none⟩), .int .i64 (k : Int), .int .i64 (lev : Int)] w (StepGot base g ts w (operatorM k lev σ)) := by
  obtain ⟨i2, hi2, hv0, hv1, hv2⟩ := info_parts infoEnt
  have HM := Lib.hid h
  have HF := Lib.hid hf
  have HL := Lib.hid (And.intro hM hl)
  obtain ⟨t, r, hr, -, -, -, -⟩ := hf.toks.split
  have HR := Lib.hid hr
  have HLV := Lib.hid hlev
  by_cases hm : σ.made = 200
  · have HE := Lib.hid (show operatorM k lev σ = .error (4, posOf σ.rest) by unfold operatorM; rw [make_no hm])
    have HMD := Lib.hid hm
    clear h hf hM hl hk hr hlev hm
    go_enter Tryz.func72, Tryz.ntmps72
    go_wp2_with fail
    refine (landCreate0 base g ts σ _ HM.out HMD.out).mono ?_
    rintro e w2 ⟨rfl, rfl⟩
    go_wp2_with fail
    go_ret
    rw [HE.out]
    exact StepGot.bad (by decide) HF.out.toks rfl HM.out (Fr.refl _ _ _)
  · have HGR := Lib.hid (show GoodT r by have := hf.toks.tail hk; rw [hr] at this; exact this)
    have HE := Lib.hid (show operatorM k lev σ = (match spanM k r with | .error e => .error e | .ok (lo, hi, q) => .ok (operEnd k lev lo hi (finM lev { σ with rest := q, made := σ.made + 1 }))) by
      unfold operatorM; rw [make_yes hm]; simp only; rw [hr]; rfl)
    have HMD := Lib.hid (show σ.made < 200 by have := hf.made; omega)
    rcases hs : spanM k r with ⟨c, p⟩ | ⟨lo, hi, q⟩
    · have HS := Lib.hid hs
      rw [hs] at HE
      clear h hf hM hl hk hr hlev hm hs
      go_enter Tryz.func72, Tryz.ntmps72
      go_wp2_with fail
      refine (landCreate1 base g ts σ _ HM.out HMD.out).mono ?_
      rintro e w2 ⟨rfl, hm2, hg2⟩
      have hf2 := Fr.of_g (bx := none) hg2 HM.out.hg.1 HM.out.base (fun e => by cases e)
      obtain ⟨tv, ov, nv, rv, SN, hm2⟩ := hm2
      obtain ⟨j, hj⟩ : ∃ j, ts.length - σ.rest.length = j := ⟨_, rfl⟩
      have c1 := hm2.blk.cell 1 rfl
      have f1 := hm2.blk.fz 1 rfl
      rw [hj] at c1
      have hj5 : (j : Int) ≤ 5000 := by have := HL.out.2; omega
      have hj0 : (0 : Int) ≤ (j : Int) := by omega
      have HM3 := Lib.hid (hm2.next (σ := { σ with made := σ.made + 1 }) HR.out hj)
      have HF3 := Lib.hid (hf2.setCell (p := ⟨g, 1, none⟩) HM.out.hg.1 (fun e => by cases e) (.int .i64 ((j : Int) + 1)))
      clear hf2 hm2 hg2 hj
      go_wp2_with fail
      refine (landSpanN base g ts { σ with rest := r, made := σ.made + 1 } k _ ⟨_, _, _, _, _, HM3.out⟩ HL.out.2 HGR.out).mono ?_
      rw [show ({ σ with rest := r, made := σ.made + 1 } : PS).rest = r from rfl, HS.out]
      rintro e w4 ⟨hc, rfl, ⟨q, hq1, hq2, hm4⟩, hf4⟩
      have HM4 := Lib.hid hm4
      have HF4 := Lib.hid (HF3.out.trans hf4)
      have HQ := Lib.hid (And.intro hc (And.intro hq1 hq2))
      clear hc hq1 hq2 hm4 hf4
      go_wp2_with fail
      go_ret
      rw [HE.out]
      have hb5 := (Below.refl w4.heap.size w4).alloc (Nat.le_refl _) (.cells #[.int .i64 0, .int .i64 0] 40)
      refine ⟨by rw [HQ.out.1]; decide, by rw [HQ.out.1]; rfl, ⟨_, HQ.out.2.1, HQ.out.2.2, HM4.out.later hb5⟩, HF4.out.trans (Fr.later hb5 (Nat.le_trans HM.out.base HF4.out.below.size))⟩
    · have HS := Lib.hid hs
      rw [hs] at HE
      have HSL := Lib.hid (show q.length ≤ σ.rest.length by have := (span_le hs).length_le; rw [hr, List.length_cons]; omega)
      have HGF := Lib.hid (fin_good hlev _ { σ with rest := q, made := σ.made + 1 } rfl (rest_ok hf.good HSL.out _))
      obtain ⟨τ, hτ⟩ : ∃ τ, finM lev { σ with rest := q, made := σ.made + 1 } = τ := ⟨_, rfl⟩
      replace HE := Lib.hid (show operatorM k lev σ = .ok (operEnd k lev lo hi τ) by rw [← hτ]; exact HE.out)
      rw [hτ] at HGF
      have HTAU := Lib.hid hτ
      obtain ⟨y, K, hy⟩ := HGF.out.split
      have HY := Lib.hid hy
      have hKl : K.length ≤ 5000 := by have := HGF.out.size; rw [hy, List.length_cons] at this; omega
      have HK := Lib.hid hKl
      clear h hf hM hl hk hr hlev hm hs hτ hy hKl
      go_enter Tryz.func72, Tryz.ntmps72
      go_wp2_with fail
      refine (landCreate1 base g ts σ _ HM.out HMD.out).mono ?_
      rintro e w2 ⟨rfl, hm2, hg2⟩
      have hf2 := Fr.of_g (bx := none) hg2 HM.out.hg.1 HM.out.base (fun e => by cases e)
      obtain ⟨tv, ov, nv, rv, SN, hm2⟩ := hm2
      obtain ⟨j, hj⟩ : ∃ j, ts.length - σ.rest.length = j := ⟨_, rfl⟩
      have c1 := hm2.blk.cell 1 rfl
      have f1 := hm2.blk.fz 1 rfl
      rw [hj] at c1
      have hj5 : (j : Int) ≤ 5000 := by have := HL.out.2; omega
      have hj0 : (0 : Int) ≤ (j : Int) := by omega
      have HM3 := Lib.hid (hm2.next (σ := { σ with made := σ.made + 1 }) HR.out hj)
      have HF3 := Lib.hid (hf2.setCell (p := ⟨g, 1, none⟩) HM.out.hg.1 (fun e => by cases e) (.int .i64 ((j : Int) + 1)))
      clear hf2 hm2 hg2 hj
      go_wp2_with fail
      refine (landSpanN base g ts { σ with rest := r, made := σ.made + 1 } k _ ⟨_, _, _, _, _, HM3.out⟩ HL.out.2 HGR.out).mono ?_
      rw [show ({ σ with rest := r, made := σ.made + 1 } : PS).rest = r from rfl, HS.out]
      rintro e w4 ⟨rfl, hm4, hf4⟩
      have hb5 := (Below.refl w4.heap.size w4).alloc (Nat.le_refl _) (.cells #[.int .i64 lo, .int .i64 hi] 40)
      have HM5 := Lib.hid (hm4.boxed (.cells #[.int .i64 lo, .int .i64 hi] 40))
      have HF5 := Lib.hid ((HF3.out.trans hf4).trans (Fr.later hb5 (Nat.le_trans HM.out.base (HF3.out.trans hf4).below.size)))
      have HX5 := Lib.hid (Blk.new w4 #[.int .i64 lo, .int .i64 hi] 40 _ rfl)
      have HW4 := Lib.hid (show base ≤ w4.heap.size from Nat.le_trans HM.out.base (HF3.out.trans hf4).below.size)
      clear hm4 hf4 c1 f1 hb5
      go_wp2_with fail
      refine (landFinish (some w4.heap.size) base g M ts { σ with rest := q, made := σ.made + 1 } lev _ (fun b hb => by injection hb with hb; rw [← hb]; exact HX5.out.1) HM5.out (rest_ok HF.out.good HSL.out _) HL.out.1 HLV.out).mono ?_
      rw [HTAU.out]
      rintro e w6 ⟨rfl, hm6, hf6⟩
      have HM6 := Lib.hid hm6
      have HX6 := Lib.hid (HX5.out.same hf6.below.size (hf6.far _ rfl HX5.out.1))
      have HF6 := Lib.hid (HF5.out.trans hf6.any)
      clear hm6 hf6
      go_wp2_with fail
      refine (landTop base g ts τ y K _ HM6.out HY.out (by have := HK.out; omega)).mono ?_
      rintro e w7 ⟨rfl, hb7⟩
      have HB7 := Lib.hid hb7
      clear hb7
      go_wp2_with fail
      have hb8 := HB7.out.alloc HB7.out.size (.cells #[.int .i64 (y.kind : Int), .int .i64 y.lo, .int .i64 y.hi, .int .i64 (y.kids : Int), .int .i64 (y.level : Int), .string (Lex.bytes y.closer), .bool y.reg, .int .i64 (y.depth : Int)] 69)
      obtain ⟨tv5, ov5, nv5, rv5, SN5, hm8⟩ := HM6.out.later hb8
      have hf8 := HF6.out.trans (Fr.later hb8 (Nat.le_trans HM.out.base HF6.out.below.size))
      have hx8 := HX6.out.later hb8
      have ho8 := Blk.new w7 #[.int .i64 (y.kind : Int), .int .i64 y.lo, .int .i64 y.hi, .int .i64 (y.kids : Int), .int .i64 (y.level : Int), .string (Lex.bytes y.closer), .bool y.reg, .int .i64 (y.depth : Int)] 69 _ rfl
      obtain ⟨V, hV⟩ : ∃ V, w7.alloc (.cells #[.int .i64 (y.kind : Int), .int .i64 y.lo, .int .i64 y.hi, .int .i64 (y.kids : Int), .int .i64 (y.level : Int), .string (Lex.bytes y.closer), .bool y.reg, .int .i64 (y.depth : Int)] 69) = V := ⟨_, rfl⟩
      rw [hV] at hm8 hf8 hx8 ho8 ⊢
      obtain ⟨B, hB⟩ : ∃ B, w4.heap.size = B := ⟨_, rfl⟩
      obtain ⟨O, hO⟩ : ∃ O, w7.heap.size = O := ⟨_, rfl⟩
      rw [hB] at hm8 hx8 ⊢
      rw [hO] at ho8 ⊢
      obtain ⟨q2, c, hov, hc, hmx, -⟩ := hm8.top HY.out
      subst hov
      obtain ⟨m, hml⟩ : ∃ m, K.length = m := ⟨_, rfl⟩
      rw [hml] at hm8
      have hBV : B < V.heap.size := hx8.1
      have HP := Lib.hid (fun o => PushAt.later (U := (V.alloc o).drew) (show PushAt V (some B) base g ts tv5 nv5 rv5 SN5 q2 m c τ ⟨k, lo, hi, 2, lev, [], y.reg, y.depth⟩ from ⟨hm8, by rw [HY.out, List.length_cons, hml], by rw [← hml]; exact HK.out, fun b hb => by injection hb with hb; rw [← hb]; exact hBV⟩) (((Below.refl _ _).alloc (Nat.le_refl _) o).drew))
      have HF8 := Lib.hid hf8
      have z0 := hx8.cell 0 rfl
      have z1 := hx8.cell 1 rfl
      have z0' := fun o => (hx8.alloc o).cell 0 rfl
      have z1' := fun o => (hx8.alloc o).cell 1 rfl
      have o6 := ho8.cell 6 rfl
      have o7 := ho8.cell 7 rfl
      have e4 := hm8.blk.cell 4 rfl
      have a4 := fun o => (hm8.blk.alloc o).cell 4 rfl
      have hm1' : (m : Int) ≤ 5000 := by have := HK.out; omega
      have HNB := Lib.hid (show (V.alloc (.cells #[.int .i64 (k : Int), .int .i64 lo, .int .i64 hi, .int .i64 2, .int .i64 (lev : Int), .string { data := #[] }, .bool y.reg, .int .i64 (y.depth : Int)] 69)).drew.heap[V.heap.size]? = some (.cells #[.int .i64 (k : Int), .int .i64 lo, .int .i64 hi, .int .i64 2, .int .i64 (lev : Int), .string { data := #[] }, .bool y.reg, .int .i64 (y.depth : Int)] 69 (0, 0)) from heap_alloc_new V _)
      clear hb8 hm8 hf8 hx8 ho8 hV hB hO hc hmx hml hBV
      go_region_law
        (first
          | (refine step_append_lies (w := (V.alloc (.cells #[.int .i64 (k : Int), .int .i64 lo, .int .i64 hi, .int .i64 2, .int .i64 (lev : Int), .string { data := #[] }, .bool y.reg, .int .i64 (y.depth : Int)] 69)).drew) rfl (.tmp 41) (.tmp 50) 70 rfl base 69 i2 _ 8 72 Tryz.underlying70 hi2 hv0 hv1 hv2 rfl (by decide) (.slice (some ⟨q2, 0, none⟩) (m + 1) c) (m + 1) _ (by rfl) (HP.out _).row ⟨V.heap.size, 0, none⟩ 1 1 (cellsE ⟨k, lo, hi, 2, lev, [], y.reg, y.depth⟩) (by rfl) rfl (World.news_of_block (HNB.out)) (cellsE_one _) (by decide) (HP.out (.cells #[] 3)).sm.1 (HP.out (.cells #[] 3)).sm.2 (HP.out _).mem.hb _ rfl ?_; intro q' cap w9 hown9 hgr9 hq9 hlt9; obtain ⟨k4, f4⟩ := (HP.out _).at4 hgr9))
      all_goals
        obtain ⟨hd1, hd2⟩ := (HP.out _).done hown9 hgr9 hq9
        obtain ⟨v2, c2, y2⟩ := hd1.cells
        have HD1 := Lib.hid (hd1.ended false)
        have HD2 := Lib.hid (((HF8.out.alloc (Nat.le_trans HM.out.base HF8.out.below.size) _).trans hd2.any).setCell (p := ⟨g, 2, none⟩) HM.out.hg.1 (fun e => by cases e) (.bool false))
        clear hd1 hd2
        go_wp2_with fail
        go_ret
        rw [HE.out]
        unfold operEnd
        rw [show (topE τ.opn).reg = y.reg by rw [HY.out]; rfl, show (topE τ.opn).depth = y.depth by rw [HY.out]; rfl]
        exact ⟨rfl, HD1.out.any, HD2.out⟩
end Go.Proofs.YthcbgneoonekkaaGreatDoor.Parse

namespace Go.Proofs.YthcbgneoonekkaaGreatDoor.Parse
open Go.RowKit Go.Proofs.YthcbgneoonekkaaGreatDoor.Ints Go.Proofs.YthcbgneoonekkaaGreatDoor.Lex Go.Proofs.YthcbgneoonekkaaGreatDoor.Tree

set_option maxHeartbeats 16000000 in
set_option maxRecDepth 100000 in
theorem landShut (base g M : Nat) (ts : List Tk) (σ : PS) (w : World) (h : PMemE (Aw none) w base g ts σ) (hf : Fit M 1 σ) (hM : M ≤ 5000) (hl : ts.length ≤ 5000) :
    Calls Tryz.prog 74 #[.pointer (some ⟨g, 0, none⟩)] w (StepGot base g ts w (shutM σ)) := by
  have HM := Lib.hid h
  have HF := Lib.hid hf
  have HL := Lib.hid (And.intro hM hl)
  obtain ⟨t, r, hr, htk, -, -, -⟩ := hf.toks.split
  have HFIN := Lib.hid (landFinish none base g M ts σ 1 w (low_none _) h hf.good hM (Nat.le_refl _))
  have HGF := Lib.hid (fin_good (Nat.le_refl 1) _ σ rfl hf.good)
  have hrest := (finM_rest 1 σ).1
  have HE := Lib.hid (show shutM σ = (if kindOf (finM 1 σ).rest ≠ 3 ∨ textOf (finM 1 σ).rest ≠ (topE (finM 1 σ).opn).closer then .error (2, posOf (finM 1 σ).rest) else .ok (endM (popM (next (finM 1 σ))))) from rfl)
  obtain ⟨τ, hτ⟩ : ∃ τ, finM 1 σ = τ := ⟨_, rfl⟩
  rw [hτ] at HFIN HGF HE hrest
  obtain ⟨y, K, hy⟩ := HGF.out.split
  have HY := Lib.hid hy
  have hKl : K.length ≤ 5000 := by have := HGF.out.size; rw [hy, List.length_cons] at this; omega
  have HK := Lib.hid hKl
  have hr2 : τ.rest = t :: r := hrest.trans hr
  have HR := Lib.hid hr2
  have HT := Lib.hid htk
  have hE2 := HE.out
  rw [hr2, hy] at hE2
  have q0 := fieldT0 t.kind (Lex.bytes t.text) t.num t.pos
  have q1 := fieldT1 t.kind (Lex.bytes t.text) t.num t.pos
  have q4 := fieldE4 y.kind y.lo y.hi y.kids y.level (Lex.bytes y.closer) y.reg y.depth
  have hcmp := bytes_cmp t.text y.closer
  by_cases h3 : t.kind = 3
  · have h3b : ((t.kind : Int) != 3) = false := by rw [h3]; rfl
    by_cases hc : t.text = y.closer
    · rw [decide_eq_true hc] at hcmp
      rw [if_neg (by rintro (h | h); exact h h3; exact h hc)] at hE2
      have HE2 := Lib.hid hE2
      have HGR := Lib.hid (show GoodT r by have := hf.toks.tail (by rw [hr]; show t.kind ≠ 0; omega); rw [hr] at this; exact this)
      have hab := HGF.out.above hy (fun e => by
        have hcl : y.closer = [] := by rw [e]; rfl
        rcases htk with ⟨-, c, r', h4, -⟩ | ⟨h4, -⟩ | ⟨h4, -⟩
        · rw [hc, hcl] at h4; cases h4
        · omega
        · omega)
      have HAB := Lib.hid hab
      obtain ⟨z1, hz1⟩ : ∃ z, Lex.bytes t.text = z := ⟨_, rfl⟩
      obtain ⟨z2, hz2⟩ : ∃ z, Lex.bytes y.closer = z := ⟨_, rfl⟩
      rw [hz1, hz2] at hcmp
      rw [hz1] at q0 q1
      rw [hz2] at q4
      have HZ := Lib.hid (And.intro hz1 hz2)
      clear h hf hM hl hr htk hrest hτ hy hKl hr2 hE2 h3 hc hab hz1 hz2
      go_enter Tryz.func74, Tryz.ntmps74
      go_wp2_with fail
      refine HFIN.out.mono ?_
      rintro e w1 ⟨rfl, hm1, hf1⟩
      have HM1 := Lib.hid hm1
      have HF1 := Lib.hid hf1
      clear hm1 hf1
      go_wp2_with fail
      have htok := landTok base g ts τ t r _ HM1.out HR.out HL.out.2
      rw [HZ.out.1] at htok
      refine htok.mono ?_
      rintro e w2 ⟨rfl, hb2⟩
      have HM2 := Lib.hid (HM1.out.later hb2)
      have HF2 := Lib.hid (HF1.out.trans (Fr.later hb2 HM1.out.base))
      clear hb2 htok
      go_wp2_with fail
      have htok := landTok base g ts τ t r _ HM2.out HR.out HL.out.2
      rw [HZ.out.1] at htok
      refine htok.mono ?_
      rintro e w3 ⟨rfl, hb3⟩
      have HM3 := Lib.hid (HM2.out.later hb3)
      have HF3 := Lib.hid (HF2.out.trans (Fr.later hb3 HM2.out.base))
      clear hb3 htok
      go_wp2_with fail
      have htop := landTop base g ts τ y K _ HM3.out HY.out (by have := HK.out; omega)
      rw [HZ.out.2] at htop
      refine htop.mono ?_
      rintro e w4 ⟨rfl, hb4⟩
      obtain ⟨tv, ov, nv, rv, SN, hm4⟩ := HM3.out.later hb4
      have hf4 := HF3.out.trans (Fr.later hb4 HM3.out.base)
      obtain ⟨j, hj⟩ : ∃ j, ts.length - τ.rest.length = j := ⟨_, rfl⟩
      have c1 := hm4.blk.cell 1 rfl
      have f1 := hm4.blk.fz 1 rfl
      rw [hj] at c1
      have hj5 : (j : Int) ≤ 5000 := by have := HL.out.2; omega
      have hj0 : (0 : Int) ≤ (j : Int) := by omega
      have HM5 := Lib.hid (hm4.next HR.out hj)
      have HF5 := Lib.hid (hf4.setCell (p := ⟨g, 1, none⟩) HM.out.hg.1 (fun e => by cases e) (.int .i64 ((j : Int) + 1)))
      clear hm4 hf4 hb4 hj htop
      go_wp2_with fail
      refine (landPop none base g M ts { τ with rest := r } y K _ (low_none _) ⟨_, _, _, _, _, HM5.out⟩ (next_ok HGF.out HR.out _) HL.out.1 HY.out).mono ?_
      rintro e w6 ⟨rfl, hm6, hf6⟩
      have HM6 := Lib.hid hm6
      have HF6 := Lib.hid (HF5.out.trans hf6)
      clear hm6 hf6 c1 f1
      go_wp2_with fail
      refine (landEnd none base g M ts _ _ (low_none _) HM6.out (pop_good (next_ok HGF.out HR.out _) HY.out HAB.out) HL.out.1).mono ?_
      rintro e w7 ⟨rfl, hm7, hf7⟩
      go_wp2_with fail
      go_ret
      have hE := HE.out
      rw [hE, ← hE, HE2.out]
      have hnx : next τ = { τ with rest := r } := by unfold next; rw [HR.out]; rfl
      rw [hnx]
      exact ⟨rfl, hm7, HF6.out.trans hf7⟩
    · rw [decide_eq_false hc] at hcmp
      have HE2 := Lib.hid (hE2.trans (if_pos (Or.inr hc)))
      have HG := Lib.hid (show GoodT τ.rest by rw [hrest]; exact hf.toks)
      obtain ⟨z1, hz1⟩ : ∃ z, Lex.bytes t.text = z := ⟨_, rfl⟩
      obtain ⟨z2, hz2⟩ : ∃ z, Lex.bytes y.closer = z := ⟨_, rfl⟩
      rw [hz1, hz2] at hcmp
      rw [hz1] at q0 q1
      rw [hz2] at q4
      have HZ := Lib.hid (And.intro hz1 hz2)
      clear h hf hM hl hr htk hrest hτ hy hKl hr2 hE2 h3 hc hz1 hz2
      go_enter Tryz.func74, Tryz.ntmps74
      go_wp2_with fail
      refine HFIN.out.mono ?_
      rintro e w1 ⟨rfl, hm1, hf1⟩
      have HM1 := Lib.hid hm1
      have HF1 := Lib.hid hf1
      clear hm1 hf1
      go_wp2_with fail
      have htok := landTok base g ts τ t r _ HM1.out HR.out HL.out.2
      rw [HZ.out.1] at htok
      refine htok.mono ?_
      rintro e w2 ⟨rfl, hb2⟩
      have HM2 := Lib.hid (HM1.out.later hb2)
      have HF2 := Lib.hid (HF1.out.trans (Fr.later hb2 HM1.out.base))
      clear hb2 htok
      go_wp2_with fail
      have htok := landTok base g ts τ t r _ HM2.out HR.out HL.out.2
      rw [HZ.out.1] at htok
      refine htok.mono ?_
      rintro e w3 ⟨rfl, hb3⟩
      have HM3 := Lib.hid (HM2.out.later hb3)
      have HF3 := Lib.hid (HF2.out.trans (Fr.later hb3 HM2.out.base))
      clear hb3 htok
      go_wp2_with fail
      have htop := landTop base g ts τ y K _ HM3.out HY.out (by have := HK.out; omega)
      rw [HZ.out.2] at htop
      refine htop.mono ?_
      rintro e w4 ⟨rfl, hb4⟩
      have HM4 := Lib.hid (HM3.out.later hb4)
      have HF4 := Lib.hid (HF3.out.trans (Fr.later hb4 HM3.out.base))
      clear hb4 htop
      go_wp2_with fail
      go_ret
      have hE := HE.out
      rw [hE, ← hE, HE2.out]
      exact StepGot.bad (τ := τ) (by decide) HG.out (by rw [HR.out]) HM4.out HF4.out
  · have h3b : ((t.kind : Int) != 3) = true := by simp; omega
    have HE2 := Lib.hid (hE2.trans (if_pos (Or.inl h3)))
    have HG := Lib.hid (show GoodT τ.rest by rw [hrest]; exact hf.toks)
    clear h hf hM hl hr htk hrest hτ hy hKl hr2 hE2 h3 hcmp q1 q4
    go_enter Tryz.func74, Tryz.ntmps74
    go_wp2_with fail
    refine HFIN.out.mono ?_
    rintro e w1 ⟨rfl, hm1, hf1⟩
    have HM1 := Lib.hid hm1
    have HF1 := Lib.hid hf1
    clear hm1 hf1
    go_wp2_with fail
    refine (landTok base g ts τ t r _ HM1.out HR.out HL.out.2).mono ?_
    rintro e w2 ⟨rfl, hb2⟩
    have HM2 := Lib.hid (HM1.out.later hb2)
    have HF2 := Lib.hid (HF1.out.trans (Fr.later hb2 HM1.out.base))
    clear hb2
    go_wp2_with fail
    go_ret
    have hE := HE.out
    rw [hE, ← hE, HE2.out]
    exact StepGot.bad (τ := τ) (by decide) HG.out (by rw [HR.out]) HM2.out HF2.out
end Go.Proofs.YthcbgneoonekkaaGreatDoor.Parse
