/-
  The reference's truth: one node, at all points (stage 15). By an AI agent. (Written by wip/tools/gentruth15.py.)
-/
import Derived.Test.YtdbgaccnejffpaaGreatGSatTells29
import Derived.Test.YtdbgaccnejffpaaGreatGSatTells30
import Derived.Test.YtdbgaccnejffpaaGreatGSatTells31
import Derived.Test.YtdbgaccnejffpaaGreatGSatTells32
import Derived.Deep.Cut
namespace Go.Proofs.YtdbgaccnejffpaaGreat.Sat
open Go.RowKit Go.Proofs.YtdbgaccnejffpaaGreat.Ints Go.Proofs.YtdbgaccnejffpaaGreat.Mem Go.Proofs.YtdbgaccnejffpaaGreat.Src Go.Proofs.YtdbgaccnejffpaaGreat.Paths Go.Proofs.YtdbgaccnejffpaaGreat.Late Go.Proofs.YtdbgaccnejffpaaGreat.Trace
theorem kinds_form {nd : Tree.Nd} (hf : Tree.formKind nd.kind = true) (h16 : nd.kind ≠ 16) (h17 : nd.kind ≠ 17) : nd.kind = 1 ∨ nd.kind = 2 ∨ nd.kind = 3 ∨ nd.kind = 4 ∨ nd.kind = 5 ∨ nd.kind = 6 ∨ nd.kind = 7 ∨ nd.kind = 8 ∨ nd.kind = 9 ∨ nd.kind = 10 ∨ nd.kind = 11 ∨ nd.kind = 12 ∨ nd.kind = 13 ∨ nd.kind = 14 ∨ nd.kind = 15 := by
 have hf : 1 ≤ nd.kind ∧ nd.kind ≤ 17 := of_decide_eq_true hf
 omega
section
variable {NA : Option Addr} {nn nc : Nat} {EA : Option Addr} {ne ec : Nat} {t : Tr} {w : World} (h : TrOk Any w NA nn nc EA ne ec t) (hn : ne ≤ 64) {nd : Tree.Nd} (K : Option Addr) (m cK : Nat) {i : Nat} (hi0 : i < ne) (hf : Tree.formKind nd.kind = true) (h16 : nd.kind ≠ 16) (h17 : nd.kind ≠ 17)
include h hn hi0 hf h16 h17
theorem holds_m0 (hk : Tree.kidc nd.kind = 0) (a b : Nat → Bool) :
  Calls Tryz.prog 65 #[.agg #[.slice NA nn nc, .slice EA ne ec], .agg #[.int .i64 nd.kind, .string nd.name, .int .i64 nd.lo, .int .i64 nd.hi, .slice K m cK], .int .i64 ((i : Nat) : Int), .int .i64 ((ne : Nat) : Int), .slice none 0 0, .slice none 0 0] w (GotHv w (hvR (tmOf t) nd.kind (holdsT t ((i : Nat) : Int) nd.name.data.toList) nd.lo nd.hi i ne a b)) := by
 have hc := kinds_form hf h16 h17
 obtain ⟨kd, nm, lo, hi, ks⟩ := nd
 have hc : kd = 1 ∨ kd = 2 ∨ kd = 3 ∨ kd = 4 ∨ kd = 5 ∨ kd = 6 ∨ kd = 7 ∨ kd = 8 ∨ kd = 9 ∨ kd = 10 ∨ kd = 11 ∨ kd = 12 ∨ kd = 13 ∨ kd = 14 ∨ kd = 15 := hc
 have hk : Tree.kidc kd = 0 := hk
 rcases hc with rfl | rfl | rfl | rfl | rfl | rfl | rfl | rfl | rfl | rfl | rfl | rfl | rfl | rfl | rfl
 ·exact holds_1 h hn nm lo hi K m cK hi0 a b
 ·exact holds_2 h hn nm lo hi K m cK hi0 a b
 ·exact holds_3 h hn nm lo hi K m cK hi0 a b
 ·exact absurd hk (by decide)
 ·exact absurd hk (by decide)
 ·exact absurd hk (by decide)
 ·exact absurd hk (by decide)
 ·exact absurd hk (by decide)
 ·exact absurd hk (by decide)
 ·exact absurd hk (by decide)
 ·exact absurd hk (by decide)
 ·exact absurd hk (by decide)
 ·exact absurd hk (by decide)
 ·exact absurd hk (by decide)
 ·exact absurd hk (by decide)
theorem holds_m1 (hk : Tree.kidc nd.kind = 1) (b1 : Nat) (a b : Nat → Bool) (hA : RB w b1 ne a) :
  Calls Tryz.prog 65 #[.agg #[.slice NA nn nc, .slice EA ne ec], .agg #[.int .i64 nd.kind, .string nd.name, .int .i64 nd.lo, .int .i64 nd.hi, .slice K m cK], .int .i64 ((i : Nat) : Int), .int .i64 ((ne : Nat) : Int), .slice (some ⟨b1, 0, none⟩) ne ne, .slice none 0 0] w (GotHv w (hvR (tmOf t) nd.kind (holdsT t ((i : Nat) : Int) nd.name.data.toList) nd.lo nd.hi i ne a b)) := by
 have hc := kinds_form hf h16 h17
 obtain ⟨kd, nm, lo, hi, ks⟩ := nd
 have hc : kd = 1 ∨ kd = 2 ∨ kd = 3 ∨ kd = 4 ∨ kd = 5 ∨ kd = 6 ∨ kd = 7 ∨ kd = 8 ∨ kd = 9 ∨ kd = 10 ∨ kd = 11 ∨ kd = 12 ∨ kd = 13 ∨ kd = 14 ∨ kd = 15 := hc
 have hk : Tree.kidc kd = 1 := hk
 rcases hc with rfl | rfl | rfl | rfl | rfl | rfl | rfl | rfl | rfl | rfl | rfl | rfl | rfl | rfl | rfl
 ·exact absurd hk (by decide)
 ·exact absurd hk (by decide)
 ·exact absurd hk (by decide)
 ·exact holds_4 h hn nm lo hi K m cK hi0 b1 a b hA
 ·exact absurd hk (by decide)
 ·exact absurd hk (by decide)
 ·exact absurd hk (by decide)
 ·exact holds_8 h hn nm lo hi K m cK hi0 b1 a b hA
 ·exact holds_9 h hn nm lo hi K m cK hi0 b1 a b hA
 ·exact holds_past (.inl rfl) h hn nm lo hi K m cK hi0 b1 a b hA
 ·exact holds_past (.inr rfl) h hn nm lo hi K m cK hi0 b1 a b hA
 ·exact holds_fut (.inl rfl) h hn nm lo hi K m cK hi0 b1 a b hA
 ·exact holds_fut (.inr rfl) h hn nm lo hi K m cK hi0 b1 a b hA
 ·exact absurd hk (by decide)
 ·exact absurd hk (by decide)
theorem holds_m2 (hk : Tree.kidc nd.kind = 2) (b1 b2 : Nat) (a b : Nat → Bool) (hA : RB w b1 ne a) (hB : RB w b2 ne b) :
  Calls Tryz.prog 65 #[.agg #[.slice NA nn nc, .slice EA ne ec], .agg #[.int .i64 nd.kind, .string nd.name, .int .i64 nd.lo, .int .i64 nd.hi, .slice K m cK], .int .i64 ((i : Nat) : Int), .int .i64 ((ne : Nat) : Int), .slice (some ⟨b1, 0, none⟩) ne ne, .slice (some ⟨b2, 0, none⟩) ne ne] w (GotHv w (hvR (tmOf t) nd.kind (holdsT t ((i : Nat) : Int) nd.name.data.toList) nd.lo nd.hi i ne a b)) := by
 have hc := kinds_form hf h16 h17
 obtain ⟨kd, nm, lo, hi, ks⟩ := nd
 have hc : kd = 1 ∨ kd = 2 ∨ kd = 3 ∨ kd = 4 ∨ kd = 5 ∨ kd = 6 ∨ kd = 7 ∨ kd = 8 ∨ kd = 9 ∨ kd = 10 ∨ kd = 11 ∨ kd = 12 ∨ kd = 13 ∨ kd = 14 ∨ kd = 15 := hc
 have hk : Tree.kidc kd = 2 := hk
 rcases hc with rfl | rfl | rfl | rfl | rfl | rfl | rfl | rfl | rfl | rfl | rfl | rfl | rfl | rfl | rfl
 ·exact absurd hk (by decide)
 ·exact absurd hk (by decide)
 ·exact absurd hk (by decide)
 ·exact absurd hk (by decide)
 ·exact holds_5 h hn nm lo hi K m cK hi0 b1 b2 a b hA hB
 ·exact holds_6 h hn nm lo hi K m cK hi0 b1 b2 a b hA hB
 ·exact holds_7 h hn nm lo hi K m cK hi0 b1 b2 a b hA hB
 ·exact absurd hk (by decide)
 ·exact absurd hk (by decide)
 ·exact absurd hk (by decide)
 ·exact absurd hk (by decide)
 ·exact absurd hk (by decide)
 ·exact absurd hk (by decide)
 ·exact holds_14 h hn nm lo hi K m cK hi0 b1 b2 a b hA hB
 ·exact holds_15 h hn nm lo hi K m cK hi0 b1 b2 a b hA hB
end
theorem form_kid {l : List Tree.Nd} (hm : Tree.mayL l = true) {k : Nat} (hk : k < l.length) (ht : Tree.takesReg (kindN l k) = false) : (Tree.kidc (kindN l k) = 1 → Tree.formKind (kindN l (kidN l k 0)) = true ∧ kidN l k 0 < k) ∧ (Tree.kidc (kindN l k) = 2 → (Tree.formKind (kindN l (kidN l k 0)) = true ∧ kidN l k 0 < k) ∧ Tree.formKind (kindN l (kidN l k 1)) = true ∧ kidN l k 1 < k) := by
 constructor
 ·intro e
  obtain ⟨_, -, -, -, -, h6, h7⟩ := node_one hm hk e
  have hlt := kidN_one hm hk e
  exact ⟨kind_form hm (by omega) (by rw [h6, h7]; exact ht), hlt⟩
 ·intro e
  obtain ⟨_, t, -, -, -, -, -, h6, h7, -, h9, h10⟩ := node_two hm hk e
  obtain ⟨l0, l1⟩ := kidN_two hm hk e
  exact ⟨⟨kind_form hm (by omega) (by rw [h6, h9]; exact ht), l0⟩, kind_form hm (by omega) (by rw [h7, h10]; exact ht), l1⟩
theorem takes_no {k : Int} (hf : Tree.formKind k = true) (h16 : k ≠ 16) (h17 : k ≠ 17) : Tree.takesReg k = false := by
 have hf : 1 ≤ k ∧ k ≤ 17 := of_decide_eq_true hf
 unfold Tree.takesReg
 refine decide_eq_false ?_
 simp only [Tree.regs, List.mem_cons, List.not_mem_nil, or_false]
 omega
set_option maxHeartbeats 16000000 in
set_option maxRecDepth 100000 in
theorem truth_plain (NA : Option Addr) (nn nc : Nat) (EA : Option Addr) (n ec : Nat) (t : Tr) (A : Option Addr) (nl cl : Nat) (l : List Tree.Nd) (B at_ : Nat) (w : World) (h : TrOk Any w NA nn nc EA n ec t) (hmt : mayT t = true) (hN : Tree.Nodes Tree.Any w A l) (hl : l.length = nl) (hml : Tree.mayL l = true) (_hl1 : nl ≤ 1000) (hat : at_ < nl) (hf : Tree.formKind (kindN l at_) = true) (h16 : kindN l at_ ≠ 16) (h17 : kindN l at_ ≠ 17) (hT : TvR w B at_ n t l) (hn : n ≤ 64) :
  Calls Tryz.prog 30 #[.agg #[.slice NA nn nc, .slice EA n ec], .slice A nl cl, .int .i64 ((at_ : Nat) : Int), .slice (some ⟨B, 0, none⟩) nl nl, .int .i64 ((n : Nat) : Int)] w (GotB w n (tvN t l at_)) := by
 have q63 : maxLen = 9223372036854775807 := rfl
 obtain ⟨i1, hi1, hy0, hy1, hy2⟩ := info_parts infoBl
 have b2 : i1.bytes * n ≤ 281474976710656 := by rw [hy2]; omega
 have b3 : n ≤ maxLen := by omega
 obtain ⟨b, off, nd, K, m, cK, hA, hnc⟩ := node_cells hN hml (show at_ < l.length by omega)
 subst hA
 have hkd := kind_of hnc.hk
 obtain ⟨hk1, hk2⟩ := form_kid hml (show at_ < l.length by omega) (takes_no hf h16 h17)
 have hen := h.elen
 have HOK := Lib.hid (fun i (hi : i < n) => hold_ok hmt hml hnc.hk (by rw [← hkd]; exact hf) (by rw [← hkd]; exact h16) (by rw [← hkd]; exact h17) (show i < t.events.length by omega))
 rw [hkd] at hf h16 h17 hk1 hk2
 rw [hen] at HOK
 have hkc := hnc.arity
 have c0 := hnc.x0
 have c1 := hnc.x1
 have c2 := hnc.x2
 have c3 := hnc.x3
 have c4 := hnc.x4
 have HKD := Lib.hid hnc.kids
 have q16 : (nd.kind == 16) = false := beq_false_of_ne h16
 have q17 : (nd.kind == 17) = false := beq_false_of_ne h17
 have HF := Lib.hid (And.intro hf (And.intro h16 h17))
 have hai : ((at_ : Nat) : Int) < ((nl : Nat) : Int) := by omega
 obtain ⟨W1, h1⟩ : ∃ W1, w.alloc (.cells #[.slice NA nn nc, .slice EA n ec] 25) = W1 := ⟨_, rfl⟩
 obtain ⟨W2, h2⟩ : ∃ W2, W1.alloc (.cells #[.int .i64 nd.kind, .string nd.name, .int .i64 nd.lo, .int .i64 nd.hi, .slice K m cK] 47) = W2 := ⟨_, rfl⟩
 obtain ⟨hb, s1, d, e⟩ := two_boxes h1 h2
 have hb1 : Below w.heap.size w W1 := by rw [← h1]; exact (Below.refl _ _).alloc (Nat.le_refl _) _
 have c0 := below_cell hb1 c0
 have c1 := below_cell hb1 c1
 have c2 := below_cell hb1 c2
 have c3 := below_cell hb1 c3
 have c4 := below_cell hb1 c4
 have d0 := d 0 _ rfl
 have d1 := d 1 _ rfl
 have e0 := e 0 _ rfl
 have e1 := e 1 _ rfl
 have e2 := e 2 _ rfl
 have e3 := e 3 _ rfl
 have e4 := e 4 _ rfl
 have HB := Lib.hid hb
 have HH := Lib.hid (h.below hb)
 have HDE := Lib.hid (And.intro d0 (And.intro d1 (And.intro e0 (And.intro e1 (And.intro e2 (And.intro e3 e4))))))
 have HT := Lib.hid (hT.below hb)
 have HHI := Lib.hid hi1
 have hn64 : ((n : Nat) : Int) ≤ 64 := by omega
 clear h hmt hN hl hml hf h16 h17 hT hnc hkd hen hb hb1 d e
 have hmk : m = 0 ∨ m = 1 ∨ m = 2 := by rw [hkc]; exact Paths.kidc_ways nd.kind
 rcases hmk with rfl | rfl | rfl
 ·have HC := Lib.hid (show ∀ i, i < n → ∀ V, Below W2.heap.size W2 V → Calls Tryz.prog 65 #[.agg #[.slice NA nn nc, .slice EA n ec], .agg #[.int .i64 nd.kind, .string nd.name, .int .i64 nd.lo, .int .i64 nd.hi, .slice K 0 cK], .int .i64 ((i : Nat) : Int), .int .i64 ((n : Nat) : Int), .slice none 0 0, .slice none 0 0] V (GotHv V (tvN t l at_ i)) from fun i hi V hV => by rw [← HOK.out i hi]; exact holds_m0 (HH.out.below hV) hn K 0 cK hi HF.out.1 HF.out.2.1 HF.out.2.2 hkc.symm (tvN t l (kidN l at_ 0)) (tvN t l (kidN l at_ 1)))
  clear hk1 hk2 hkc
  go_enter Tryz.func30, Tryz.ntmps30
  go_upto_region 2 with fail
  clear c0 c1 c2 c3 c4
  go_wp2_with (at_make; refine wpList_make_full _ rfl (.tmp 25) (.tmp 25) 32 rfl w.heap.size 4 i1 (.bool false) 1 Tryz.underlying32 HHI.out hy0 hy1 .i64 .i64 _ _ n rfl rfl rfl rfl b2 b3 HB.out.size ?_; intro w3 hmade hgr3; rw [made_bools] at hmade; have hg3 : Below W2.heap.size W2 w3 := ⟨hgr3.os, hgr3.tape, hgr3.output, hgr3.size, fun k hk => hgr3.block k hk (by simp)⟩; have f0 := below_cell hg3 d0; have f1 := below_cell hg3 d1; have g0 := below_cell hg3 e0; have g4 := below_cell hg3 e4; obtain ⟨R, hR⟩ : ∃ R, W2.heap.size = R := ⟨_, rfl⟩; have HR := Lib.hid hR; have HO := Lib.hid (show OB w3 w.heap.size R n (upTo 0 (tvN t l at_)) from by unfold OB; rw [bl_zero, ← hR]; exact hmade); have HG := Lib.hid hg3; rw [hR]; clear hmade hgr3 hg3 hR)
  clear f0 f1 g0 g4 d0 d1 e0 e1 e2 e3 e4
  go_loopw [20, 135] (fun _ v wr => ∃ i : Nat, v = .int .i64 ((i : Nat) : Int) ∧ i ≤ n ∧ OB wr w.heap.size R n (upTo i (tvN t l at_)) ∧ Below W2.heap.size W2 wr) (fun _ v _ => n - (intOf v).toNat)
  case atStart => exact ⟨0, rfl, Nat.zero_le _, HO.out, HG.out⟩
  case round =>
   obtain ⟨i, rfl, hin, hO, hB⟩ := hrel
   have HOi := Lib.hid hO
   have HBi := Lib.hid hB
   by_cases hlt : i < n
   ·have hii : ((i : Nat) : Int) < ((n : Nat) : Int) := by omega
    have f0 := below_cell hB HDE.out.1
    have f1 := below_cell hB HDE.out.2.1
    have g0 := below_cell hB HDE.out.2.2.1
    have g1 := below_cell hB HDE.out.2.2.2.1
    have g2 := below_cell hB HDE.out.2.2.2.2.1
    have g3 := below_cell hB HDE.out.2.2.2.2.2.1
    have g4 := below_cell hB HDE.out.2.2.2.2.2.2
    clear hO hB
    go_wp2_with fail
    refine (HC.out i hlt _ HBi.out).mono ?_
    rintro e w5 ⟨rfl, hb5⟩
    have hO5 := HOi.out.below hb5
    have cR := hO5.rb i hlt
    have fR := own_fz hO5 i
    obtain ⟨tv, htv⟩ : ∃ x, tvN t l at_ i = x := ⟨_, rfl⟩
    have HON := Lib.hid (show OB (w5.setCell ⟨R, i, none⟩ (.bool tv)) w.heap.size R n (upTo (i + 1) (tvN t l at_)) from by
     have h1 := own_put (k := i) hO5 (.bool tv)
     rw [bl_set (tvN t l at_) hlt htv.symm] at h1
     exact h1)
    have HBN := Lib.hid ((HBi.out.trans (hb5.mono HBi.out.size)).setCell (p := ⟨R, i, none⟩) (show W2.heap.size ≤ R by rw [HR.out]; exact Nat.le_refl _) (.bool tv))
    rw [htv]
    clear hO5 hb5 f0 f1 g0 g1 g2 g3 g4 htv
    go_wp2_with fail
    go_roundw
    case rel => exact ⟨i + 1, by simp, by omega, HON.out, HBN.out⟩
    case measure => (show n - (i + 1) < n - i; omega)
   ·obtain rfl : i = n := by omega
    clear hO hB
    go_wp2_with fail
    go_ret
    refine ⟨R, rfl, ?_, HB.out.trans (HBi.out.mono HB.out.size)⟩
    have h1 := HOi.out
    unfold OB at h1
    rw [bl_full] at h1
    exact h1
 ·obtain ⟨kb, ko, rfl, y0, -⟩ := HKD.out 0 (by decide)
  rw [Nat.add_zero] at y0
  obtain ⟨hf0, hlt0⟩ := hk1 hkc.symm
  obtain ⟨r0, z0, hr0⟩ := HT.out (kidN l at_ 0) hlt0 hf0
  have HR0 := Lib.hid hr0
  have y0 := below_cell HB.out y0
  have HAB := Lib.hid (fun i => HOK.out i)
  obtain ⟨k0, hk0e⟩ : ∃ q, kidN l at_ 0 = q := ⟨_, rfl⟩
  rw [hk0e] at y0 z0 hlt0
  have hki0 : ((k0 : Nat) : Int) < ((nl : Nat) : Int) := by omega
  have HC := Lib.hid (show ∀ i, i < n → ∀ V, Below W2.heap.size W2 V → Calls Tryz.prog 65 #[.agg #[.slice NA nn nc, .slice EA n ec], .agg #[.int .i64 nd.kind, .string nd.name, .int .i64 nd.lo, .int .i64 nd.hi, .slice (some ⟨kb, ko, none⟩) 1 cK], .int .i64 ((i : Nat) : Int), .int .i64 ((n : Nat) : Int), .slice (some ⟨r0, 0, none⟩) n n, .slice none 0 0] V (GotHv V (tvN t l at_ i)) from fun i hi V hV => by rw [← HOK.out i hi]; exact holds_m1 (HH.out.below hV) hn (some ⟨kb, ko, none⟩) 1 cK hi HF.out.1 HF.out.2.1 HF.out.2.2 hkc.symm r0 (tvN t l (kidN l at_ 0)) (tvN t l (kidN l at_ 1)) (HR0.out.below hV))
  clear hk1 hk2 hkc hr0 hf0 hlt0 hk0e
  go_enter Tryz.func30, Tryz.ntmps30
  go_upto_region 2 with fail
  clear c0 c1 c2 c3 c4
  go_wp2_with (at_make; refine wpList_make_full _ rfl (.tmp 25) (.tmp 25) 32 rfl w.heap.size 4 i1 (.bool false) 1 Tryz.underlying32 HHI.out hy0 hy1 .i64 .i64 _ _ n rfl rfl rfl rfl b2 b3 HB.out.size ?_; intro w3 hmade hgr3; rw [made_bools] at hmade; have hg3 : Below W2.heap.size W2 w3 := ⟨hgr3.os, hgr3.tape, hgr3.output, hgr3.size, fun k hk => hgr3.block k hk (by simp)⟩; have f0 := below_cell hg3 d0; have f1 := below_cell hg3 d1; have g0 := below_cell hg3 e0; have g4 := below_cell hg3 e4; have y0 := below_cell hg3 y0; have z0 := below_cell hg3 z0; obtain ⟨R, hR⟩ : ∃ R, W2.heap.size = R := ⟨_, rfl⟩; have HR := Lib.hid hR; have HO := Lib.hid (show OB w3 w.heap.size R n (upTo 0 (tvN t l at_)) from by unfold OB; rw [bl_zero, ← hR]; exact hmade); have HG := Lib.hid hg3; rw [hR]; clear hmade hgr3 hg3 hR)
  clear f0 f1 g0 g4 d0 d1 e0 e1 e2 e3 e4 y0 z0
  go_loopw [20, 135] (fun _ v wr => ∃ i : Nat, v = .int .i64 ((i : Nat) : Int) ∧ i ≤ n ∧ OB wr w.heap.size R n (upTo i (tvN t l at_)) ∧ Below W2.heap.size W2 wr) (fun _ v _ => n - (intOf v).toNat)
  case atStart => exact ⟨0, rfl, Nat.zero_le _, HO.out, HG.out⟩
  case round =>
   obtain ⟨i, rfl, hin, hO, hB⟩ := hrel
   have HOi := Lib.hid hO
   have HBi := Lib.hid hB
   by_cases hlt : i < n
   ·have hii : ((i : Nat) : Int) < ((n : Nat) : Int) := by omega
    have f0 := below_cell hB HDE.out.1
    have f1 := below_cell hB HDE.out.2.1
    have g0 := below_cell hB HDE.out.2.2.1
    have g1 := below_cell hB HDE.out.2.2.2.1
    have g2 := below_cell hB HDE.out.2.2.2.2.1
    have g3 := below_cell hB HDE.out.2.2.2.2.2.1
    have g4 := below_cell hB HDE.out.2.2.2.2.2.2
    clear hO hB
    go_wp2_with fail
    refine (HC.out i hlt _ HBi.out).mono ?_
    rintro e w5 ⟨rfl, hb5⟩
    have hO5 := HOi.out.below hb5
    have cR := hO5.rb i hlt
    have fR := own_fz hO5 i
    obtain ⟨tv, htv⟩ : ∃ x, tvN t l at_ i = x := ⟨_, rfl⟩
    have HON := Lib.hid (show OB (w5.setCell ⟨R, i, none⟩ (.bool tv)) w.heap.size R n (upTo (i + 1) (tvN t l at_)) from by
     have h1 := own_put (k := i) hO5 (.bool tv)
     rw [bl_set (tvN t l at_) hlt htv.symm] at h1
     exact h1)
    have HBN := Lib.hid ((HBi.out.trans (hb5.mono HBi.out.size)).setCell (p := ⟨R, i, none⟩) (show W2.heap.size ≤ R by rw [HR.out]; exact Nat.le_refl _) (.bool tv))
    rw [htv]
    clear hO5 hb5 f0 f1 g0 g1 g2 g3 g4 htv
    go_wp2_with fail
    go_roundw
    case rel => exact ⟨i + 1, by simp, by omega, HON.out, HBN.out⟩
    case measure => (show n - (i + 1) < n - i; omega)
   ·obtain rfl : i = n := by omega
    clear hO hB
    go_wp2_with fail
    go_ret
    refine ⟨R, rfl, ?_, HB.out.trans (HBi.out.mono HB.out.size)⟩
    have h1 := HOi.out
    unfold OB at h1
    rw [bl_full] at h1
    exact h1
 ·obtain ⟨kb, ko, rfl, y0, -⟩ := HKD.out 0 (by decide)
  rw [Nat.add_zero] at y0
  obtain ⟨⟨hf0, hlt0⟩, hf1, hlt1⟩ := hk2 hkc.symm
  obtain ⟨kb2, ko2, hKK, y1, -⟩ := HKD.out 1 (by decide)
  obtain ⟨rfl, rfl⟩ : kb = kb2 ∧ ko = ko2 := by
        injection hKK with h
        injection h with h1 h2 _
        exact ⟨h1, h2⟩
  clear hKK
  obtain ⟨r0, z0, hr0⟩ := HT.out (kidN l at_ 0) hlt0 hf0
  have HR0 := Lib.hid hr0
  have y0 := below_cell HB.out y0
  obtain ⟨r1, z1, hr1⟩ := HT.out (kidN l at_ 1) hlt1 hf1
  have HR1 := Lib.hid hr1
  have y1 := below_cell HB.out y1
  have HAB := Lib.hid (fun i => HOK.out i)
  obtain ⟨k0, hk0e⟩ : ∃ q, kidN l at_ 0 = q := ⟨_, rfl⟩
  rw [hk0e] at y0 z0 hlt0
  have hki0 : ((k0 : Nat) : Int) < ((nl : Nat) : Int) := by omega
  obtain ⟨k1, hk1e⟩ : ∃ q, kidN l at_ 1 = q := ⟨_, rfl⟩
  rw [hk1e] at y1 z1 hlt1
  have hki1 : ((k1 : Nat) : Int) < ((nl : Nat) : Int) := by omega
  have HC := Lib.hid (show ∀ i, i < n → ∀ V, Below W2.heap.size W2 V → Calls Tryz.prog 65 #[.agg #[.slice NA nn nc, .slice EA n ec], .agg #[.int .i64 nd.kind, .string nd.name, .int .i64 nd.lo, .int .i64 nd.hi, .slice (some ⟨kb, ko, none⟩) 2 cK], .int .i64 ((i : Nat) : Int), .int .i64 ((n : Nat) : Int), .slice (some ⟨r0, 0, none⟩) n n, .slice (some ⟨r1, 0, none⟩) n n] V (GotHv V (tvN t l at_ i)) from fun i hi V hV => by rw [← HOK.out i hi]; exact holds_m2 (HH.out.below hV) hn (some ⟨kb, ko, none⟩) 2 cK hi HF.out.1 HF.out.2.1 HF.out.2.2 hkc.symm r0 r1 (tvN t l (kidN l at_ 0)) (tvN t l (kidN l at_ 1)) (HR0.out.below hV) (HR1.out.below hV))
  clear hk1 hk2 hkc hr0 hf0 hlt0 hk0e hr1 hf1 hlt1 hk1e
  go_enter Tryz.func30, Tryz.ntmps30
  go_upto_region 2 with fail
  clear c0 c1 c2 c3 c4
  go_wp2_with (at_make; refine wpList_make_full _ rfl (.tmp 25) (.tmp 25) 32 rfl w.heap.size 4 i1 (.bool false) 1 Tryz.underlying32 HHI.out hy0 hy1 .i64 .i64 _ _ n rfl rfl rfl rfl b2 b3 HB.out.size ?_; intro w3 hmade hgr3; rw [made_bools] at hmade; have hg3 : Below W2.heap.size W2 w3 := ⟨hgr3.os, hgr3.tape, hgr3.output, hgr3.size, fun k hk => hgr3.block k hk (by simp)⟩; have f0 := below_cell hg3 d0; have f1 := below_cell hg3 d1; have g0 := below_cell hg3 e0; have g4 := below_cell hg3 e4; have y0 := below_cell hg3 y0; have z0 := below_cell hg3 z0; have y1 := below_cell hg3 y1; have z1 := below_cell hg3 z1; obtain ⟨R, hR⟩ : ∃ R, W2.heap.size = R := ⟨_, rfl⟩; have HR := Lib.hid hR; have HO := Lib.hid (show OB w3 w.heap.size R n (upTo 0 (tvN t l at_)) from by unfold OB; rw [bl_zero, ← hR]; exact hmade); have HG := Lib.hid hg3; rw [hR]; clear hmade hgr3 hg3 hR)
  clear f0 f1 g0 g4 d0 d1 e0 e1 e2 e3 e4 y0 z0 y1 z1
  go_loopw [20, 135] (fun _ v wr => ∃ i : Nat, v = .int .i64 ((i : Nat) : Int) ∧ i ≤ n ∧ OB wr w.heap.size R n (upTo i (tvN t l at_)) ∧ Below W2.heap.size W2 wr) (fun _ v _ => n - (intOf v).toNat)
  case atStart => exact ⟨0, rfl, Nat.zero_le _, HO.out, HG.out⟩
  case round =>
   obtain ⟨i, rfl, hin, hO, hB⟩ := hrel
   have HOi := Lib.hid hO
   have HBi := Lib.hid hB
   by_cases hlt : i < n
   ·have hii : ((i : Nat) : Int) < ((n : Nat) : Int) := by omega
    have f0 := below_cell hB HDE.out.1
    have f1 := below_cell hB HDE.out.2.1
    have g0 := below_cell hB HDE.out.2.2.1
    have g1 := below_cell hB HDE.out.2.2.2.1
    have g2 := below_cell hB HDE.out.2.2.2.2.1
    have g3 := below_cell hB HDE.out.2.2.2.2.2.1
    have g4 := below_cell hB HDE.out.2.2.2.2.2.2
    clear hO hB
    go_wp2_with fail
    refine (HC.out i hlt _ HBi.out).mono ?_
    rintro e w5 ⟨rfl, hb5⟩
    have hO5 := HOi.out.below hb5
    have cR := hO5.rb i hlt
    have fR := own_fz hO5 i
    obtain ⟨tv, htv⟩ : ∃ x, tvN t l at_ i = x := ⟨_, rfl⟩
    have HON := Lib.hid (show OB (w5.setCell ⟨R, i, none⟩ (.bool tv)) w.heap.size R n (upTo (i + 1) (tvN t l at_)) from by
     have h1 := own_put (k := i) hO5 (.bool tv)
     rw [bl_set (tvN t l at_) hlt htv.symm] at h1
     exact h1)
    have HBN := Lib.hid ((HBi.out.trans (hb5.mono HBi.out.size)).setCell (p := ⟨R, i, none⟩) (show W2.heap.size ≤ R by rw [HR.out]; exact Nat.le_refl _) (.bool tv))
    rw [htv]
    clear hO5 hb5 f0 f1 g0 g1 g2 g3 g4 htv
    go_wp2_with fail
    go_roundw
    case rel => exact ⟨i + 1, by simp, by omega, HON.out, HBN.out⟩
    case measure => (show n - (i + 1) < n - i; omega)
   ·obtain rfl : i = n := by omega
    clear hO hB
    go_wp2_with fail
    go_ret
    refine ⟨R, rfl, ?_, HB.out.trans (HBi.out.mono HB.out.size)⟩
    have h1 := HOi.out
    unfold OB at h1
    rw [bl_full] at h1
    exact h1
end Go.Proofs.YtdbgaccnejffpaaGreat.Sat
