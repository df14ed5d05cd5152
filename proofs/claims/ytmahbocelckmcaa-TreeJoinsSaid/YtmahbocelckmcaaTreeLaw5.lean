/-
  The walk of the law TreeJoins. By an AI agent.
-/
import Derived.Test.YtmahbocelckmcaaTreeJoins1
namespace Go.Proofs.Ytmahbocelckmcaa.Tree
open Go.RowKit Go.Sort Go.Proofs.Ytmahbocelckmcaa.Ints

set_option maxHeartbeats 16000000 in
set_option maxRecDepth 100000 in
theorem lawJoins (nd0 : Nd) (K0 : Option Addr) (c0 : Nat) (A B : Option Addr) (n c m d : Nat) (zs us : List Int) (cnt rg : Int) (w : World) (h0 : NodeOk w nd0 K0 c0) (hnm : nd0.name.size ≤ 281474976710656)
    (hA : Rd .u16 w A n zs) (hn : n ≤ maxLen) (hB : Rd .u16 w B m us) (hm : m ≤ maxLen) (hc : 0 ≤ cnt ∧ cnt ≤ 255) (hr : 0 ≤ rg ∧ rg ≤ 255) :
    Calls Try.prog 6 #[.agg #[.int .i64 nd0.kind, .string nd0.name, .int .i64 nd0.lo, .int .i64 nd0.hi, .slice K0 nd0.kids.length c0], .slice A n c, .slice B m d, .int .u8 cnt, .int .u8 rg] w fun e w' => e = .returned (.bool true) ∧ Below w.heap.size w w' := by
  obtain ⟨i0, hi0, hz0, hz1, hz2⟩ := info_parts infoLists
  have HA := Lib.hid (fun W => awake W)
  have MA := Lib.hid (fun W (hb : Below w.heap.size w W) => lawMake A n c zs false W (hA.below hb) hn)
  have RA := Lib.hid (fun W (hb : Below w.heap.size w W) => lawReg A n c zs false W (hA.below hb) hn)
  have MB := Lib.hid (fun W (hb : Below w.heap.size w W) => lawMake B m d us false W (hB.below hb) hm)
  have RB := Lib.hid (fun W (hb : Below w.heap.size w W) => lawReg B m d us false W (hB.below hb) hm)
  obtain ⟨gMA, lMA⟩ := make_ok false zs fun z hz => wf_u16 (hA.all z hz)
  obtain ⟨gRA, lRA⟩ := reg_ok false zs fun z hz => wf_u16 (hA.all z hz)
  obtain ⟨gMB, lMB⟩ := make_ok false us fun z hz => wf_u16 (hB.all z hz)
  obtain ⟨gRB, lRB⟩ := reg_ok false us fun z hz => wf_u16 (hB.all z hz)
  obtain ⟨hc1, hc2⟩ := hc
  obtain ⟨hr1, hr2⟩ := hr
  obtain ⟨q, hq⟩ : ∃ q : Nat, cnt % 4 = (q : Int) := Int.eq_ofNat_of_zero_le (Int.emod_nonneg _ (by omega))
  have hq3 : q ≤ 3 := by have := Int.emod_lt_of_pos cnt (show (0 : Int) < 4 by omega); omega
  have GL := Lib.hid (show (makeL false zs).length ≤ 100 ∧ (regMk false zs).length ≤ 100 ∧ (makeL false us).length ≤ 100 ∧ (regMk false us).length ≤ 100 from ⟨lMA, lRA, lMB, lRB⟩)
  have GK := Lib.hid (show (∀ x ∈ makeL false zs, x.kids.length ≤ 2) ∧ (∀ x ∈ regMk false zs, x.kids.length ≤ 2) ∧ (∀ x ∈ makeL false us, x.kids.length ≤ 2) ∧ (∀ x ∈ regMk false us, x.kids.length ≤ 2) from
    ⟨fun x hx => by obtain ⟨j, hj, rfl⟩ := List.getElem_of_mem hx; exact may_arity gMA.1 (List.getElem?_eq_getElem hj), fun x hx => by obtain ⟨j, hj, rfl⟩ := List.getElem_of_mem hx; exact may_arity gRA.1 (List.getElem?_eq_getElem hj),
     fun x hx => by obtain ⟨j, hj, rfl⟩ := List.getElem_of_mem hx; exact may_arity gMB.1 (List.getElem?_eq_getElem hj), fun x hx => by obtain ⟨j, hj, rfl⟩ := List.getElem_of_mem hx; exact may_arity gRB.1 (List.getElem?_eq_getElem hj)⟩)
  have HOK := Lib.hid h0
  have HNM := Lib.hid hnm
  obtain ⟨mk, hmk⟩ : ∃ mk, nd0.kids.length = mk := ⟨_, rfl⟩
  have HMK := Lib.hid hmk
  rw [hmk]
  clear hA hn hB hm gMA gRA gMB gRB lMA lRA lMB lRB h0 hnm hmk
  go_enter Try.func6, Try.ntmps6
  go_wp2
  rw [hq]
  clear hq
  go_loopw [11, 12, 20] (fun kv wv i wr => ∃ (k : Nat) (σ ρ : List SL), k ≤ q ∧ i = .int .i64 k ∧ Hid (JMid w #[.int .i64 nd0.kind, .string nd0.name, .int .i64 nd0.lo, .int .i64 nd0.hi, .slice K0 mk c0] kv wv σ ρ wr ∧ σ.length = k ∧ σ.map (·.1) = ρ.map (·.1) ∧ ∀ s ∈ σ, s.1.length ≤ 100)) (fun _ _ i _ => q - (intOf i).toNat)
  case atStart =>
    refine ⟨0, [], [], Nat.zero_le _, rfl, ⟨⟨OwnLists.nil _ _ _, OwnLists.nil _ _ _, Or.inl rfl, fun q hq => by simp [Value.ownBlock] at hq, fun q hq => by simp [Value.ownBlock] at hq⟩, fun q hq => by simp [Value.ownBlock] at hq, fun q hq => by simp [Value.ownBlock] at hq, Below.refl _ _, by simp⟩, rfl, rfl, fun s hs => by simp at hs⟩
  case round =>
    obtain ⟨k, σ, ρ, hk, rfl, HR⟩ := hrel
    have HB := Lib.hid (show Below w.heap.size w wr from below_one HR.out.1)
    by_cases hkq : k < q
    · have hkq' : (k : Int) < (q : Int) := by omega
      rcases (show k = 0 ∨ k = 1 ∨ k = 2 by omega) with hk1 | hk1 | hk1
      · obtain ⟨F1, hF1⟩ : ∃ F, makeL false zs = F := ⟨_, rfl⟩
        obtain ⟨F2, hF2⟩ : ∃ F, regMk false zs = F := ⟨_, rfl⟩
        have g1 := Lib.hid (And.intro GL.out.1 GK.out.1)
        have g2 := Lib.hid (And.intro GL.out.2.1 GK.out.2.1)
        have M1 := MA
        have M2 := RA
        rw [hF1] at g1 M1
        rw [hF2] at g2 M2
        clear hF1 hF2
        obtain ⟨z, hz⟩ : ∃ z, bits BinOp.and IntKind.u8 rg 1 = z := ⟨_, rfl⟩
        by_cases hzo : z = 1
        · go_wp2_with fail
          refine (M1.out _ HB.out).mono ?_
          rintro e w1 ⟨AF, cF, rfl, hnF, hcF, hmF, hb⟩
          have HJ0 := Lib.hid (HR.out.1.below hb)
          clear hnF hcF hmF hb
          go_wp2_with fail
          refine (M2.out _ (below_one HJ0.out)).mono ?_
          rintro e w2 ⟨AR, cR, rfl, hnR, hcR, hmR, hb⟩
          have NF := Lib.hid hnR
          have LF := Lib.hid (And.intro hcR hmR)
          have HJ := Lib.hid (HJ0.out.below hb)
          clear hnR hcR hmR hb
          have HJA := Lib.hid (HJ.out.below ((Below.refl w2.heap.size w2).alloc (Nat.le_refl _) (.cells #[.slice AR F2.length cR] 22)))
          have HK1 := Lib.hid (HJA.out.new (NF.out.below ((Below.refl w2.heap.size w2).alloc (Nat.le_refl _) (.cells #[.slice AR F2.length cR] 22))) LF.out.1 LF.out.2)
          have HC1 := Lib.hid (cell_one_new w2 (cellL (F2, AR, cR)) 22 0 _ rfl)
          have HS1 := Lib.hid (show σ.length ≤ 4194304 by have := HR.out.2.1; omega)
          have HSR := Lib.hid (show ρ.length ≤ 4194304 by have := HR.out.2.1; have h2 := congrArg List.length HR.out.2.2.1; rw [List.length_map, List.length_map] at h2; omega)
          go_wp2_with (at_builtin; (refine wpList_append_slN rfl (.tmp 37) (.tmp 39) 36 rfl (w.heap.size + 1) i0 Try.underlying36 hi0 hz0 hz1 hz2 u11 σ (by rfl) (Off u12 0 0) HJA.out.1.1 HJA.out.2.1 (F2, AR, cR) HK1.out ⟨w2.heap.size, 0, none⟩ (by rfl) HC1.out HS1.out HJA.out.2.2.2.2 ?_); intro v3 w3 hown3 hno3 hgr3 hat3)
          have HM3 := Lib.hid (HJA.out.grow hown3 hno3 hgr3 hat3)
          have N3 := Lib.hid (show Nodes Any w3 AR F2 from (hown3.2 (F2, AR, cR) (by simp)).1.mono fun _ _ _ => trivial)
          clear hown3 hno3 hgr3 hat3
          refine (lawCopy AR _ cR F2 w3 rfl (by have := g2.out.1; omega) g2.out.2 N3.out).mono ?_
          rintro e w4 ⟨v4, σ4, rfl, hO, hσ, -, -, hb⟩
          obtain ⟨A4, c4, rfl, hN4, hl4, hm4⟩ := hO.reads (S := fun b => w3.heap.size ≤ b) (fun b hb _ => hb)
          rw [hσ] at hN4
          rw [show σ4.length = F2.length by rw [← hσ, List.length_map]] at hl4 ⊢
          have HJB := Lib.hid ((HM3.out.below hb).below ((Below.refl w4.heap.size w4).alloc (Nat.le_refl _) (.cells #[.slice A4 F2.length c4] 22))).swap
          have HK4 := Lib.hid (HJB.out.new (hN4.any.below ((Below.refl w4.heap.size w4).alloc (Nat.le_refl _) (.cells #[.slice A4 F2.length c4] 22))) hl4 hm4)
          have HC4 := Lib.hid (cell_one_new w4 (cellL (F2, A4, c4)) 22 0 _ rfl)
          clear hO hσ hb hN4 hl4 hm4
          go_wp2_with (at_builtin; (refine wpList_append_slN rfl (.tmp 41) (.tmp 44) 36 rfl (w.heap.size + 1) i0 Try.underlying36 hi0 hz0 hz1 hz2 u12 ρ (by rfl) (Off v3 0 0) HJB.out.1.1 HJB.out.2.1 (F2, A4, c4) HK4.out ⟨w4.heap.size, 0, none⟩ (by rfl) HC4.out HSR.out HJB.out.2.2.2.2 ?_); intro v5 w5 hown5 hno5 hgr5 hat5)
          have HM5 := Lib.hid (HJB.out.grow hown5 hno5 hgr5 hat5).swap
          clear hown5 hno5 hgr5 hat5
          go_roundw
          case rel => exact ⟨k + 1, σ ++ [(F2, AR, cR)], ρ ++ [(F2, A4, c4)], by omega, by rw [hk1]; rfl, HM5.out, by rw [List.length_append, HR.out.2.1]; rfl, by rw [List.map_append, List.map_append, HR.out.2.2.1]; rfl, fun s hs => (List.mem_append.1 hs).elim (HR.out.2.2.2 s) fun h => by rw [List.mem_singleton.1 h]; exact g2.out.1⟩
          case measure => simp [intOf]; omega
        · have hzt : (z == 1) = false := beq_eq_false_iff_ne.2 hzo
          go_wp2_with fail
          refine (M1.out _ HB.out).mono ?_
          rintro e w1 ⟨AF, cF, rfl, hnF, hcF, hmF, hb⟩
          have NF := Lib.hid hnF
          have LF := Lib.hid (And.intro hcF hmF)
          have HJ := Lib.hid (HR.out.1.below hb)
          clear hnF hcF hmF hb
          have HJA := Lib.hid (HJ.out.below ((Below.refl w1.heap.size w1).alloc (Nat.le_refl _) (.cells #[.slice AF F1.length cF] 22)))
          have HK1 := Lib.hid (HJA.out.new (NF.out.below ((Below.refl w1.heap.size w1).alloc (Nat.le_refl _) (.cells #[.slice AF F1.length cF] 22))) LF.out.1 LF.out.2)
          have HC1 := Lib.hid (cell_one_new w1 (cellL (F1, AF, cF)) 22 0 _ rfl)
          have HS1 := Lib.hid (show σ.length ≤ 4194304 by have := HR.out.2.1; omega)
          have HSR := Lib.hid (show ρ.length ≤ 4194304 by have := HR.out.2.1; have h2 := congrArg List.length HR.out.2.2.1; rw [List.length_map, List.length_map] at h2; omega)
          go_wp2_with (at_builtin; (refine wpList_append_slN rfl (.tmp 37) (.tmp 39) 36 rfl (w.heap.size + 1) i0 Try.underlying36 hi0 hz0 hz1 hz2 u11 σ (by rfl) (Off u12 0 0) HJA.out.1.1 HJA.out.2.1 (F1, AF, cF) HK1.out ⟨w1.heap.size, 0, none⟩ (by rfl) HC1.out HS1.out HJA.out.2.2.2.2 ?_); intro v3 w3 hown3 hno3 hgr3 hat3)
          have HM3 := Lib.hid (HJA.out.grow hown3 hno3 hgr3 hat3)
          have N3 := Lib.hid (show Nodes Any w3 AF F1 from (hown3.2 (F1, AF, cF) (by simp)).1.mono fun _ _ _ => trivial)
          clear hown3 hno3 hgr3 hat3
          refine (lawCopy AF _ cF F1 w3 rfl (by have := g1.out.1; omega) g1.out.2 N3.out).mono ?_
          rintro e w4 ⟨v4, σ4, rfl, hO, hσ, -, -, hb⟩
          obtain ⟨A4, c4, rfl, hN4, hl4, hm4⟩ := hO.reads (S := fun b => w3.heap.size ≤ b) (fun b hb _ => hb)
          rw [hσ] at hN4
          rw [show σ4.length = F1.length by rw [← hσ, List.length_map]] at hl4 ⊢
          have HJB := Lib.hid ((HM3.out.below hb).below ((Below.refl w4.heap.size w4).alloc (Nat.le_refl _) (.cells #[.slice A4 F1.length c4] 22))).swap
          have HK4 := Lib.hid (HJB.out.new (hN4.any.below ((Below.refl w4.heap.size w4).alloc (Nat.le_refl _) (.cells #[.slice A4 F1.length c4] 22))) hl4 hm4)
          have HC4 := Lib.hid (cell_one_new w4 (cellL (F1, A4, c4)) 22 0 _ rfl)
          clear hO hσ hb hN4 hl4 hm4
          go_wp2_with (at_builtin; (refine wpList_append_slN rfl (.tmp 41) (.tmp 44) 36 rfl (w.heap.size + 1) i0 Try.underlying36 hi0 hz0 hz1 hz2 u12 ρ (by rfl) (Off v3 0 0) HJB.out.1.1 HJB.out.2.1 (F1, A4, c4) HK4.out ⟨w4.heap.size, 0, none⟩ (by rfl) HC4.out HSR.out HJB.out.2.2.2.2 ?_); intro v5 w5 hown5 hno5 hgr5 hat5)
          have HM5 := Lib.hid (HJB.out.grow hown5 hno5 hgr5 hat5).swap
          clear hown5 hno5 hgr5 hat5
          go_roundw
          case rel => exact ⟨k + 1, σ ++ [(F1, AF, cF)], ρ ++ [(F1, A4, c4)], by omega, by rw [hk1]; rfl, HM5.out, by rw [List.length_append, HR.out.2.1]; rfl, by rw [List.map_append, List.map_append, HR.out.2.2.1]; rfl, fun s hs => (List.mem_append.1 hs).elim (HR.out.2.2.2 s) fun h => by rw [List.mem_singleton.1 h]; exact g1.out.1⟩
          case measure => simp [intOf]; omega
      · obtain ⟨F1, hF1⟩ : ∃ F, makeL false us = F := ⟨_, rfl⟩
        obtain ⟨F2, hF2⟩ : ∃ F, regMk false us = F := ⟨_, rfl⟩
        have g1 := Lib.hid (And.intro GL.out.2.2.1 GK.out.2.2.1)
        have g2 := Lib.hid (And.intro GL.out.2.2.2 GK.out.2.2.2)
        have M1 := MB
        have M2 := RB
        rw [hF1] at g1 M1
        rw [hF2] at g2 M2
        clear hF1 hF2
        obtain ⟨z, hz⟩ : ∃ z, bits BinOp.and IntKind.u8 (rg / 2) 1 = z := ⟨_, rfl⟩
        by_cases hzo : z = 1
        · go_wp2_with fail
          refine (M1.out _ HB.out).mono ?_
          rintro e w1 ⟨AF, cF, rfl, hnF, hcF, hmF, hb⟩
          have HJ0 := Lib.hid (HR.out.1.below hb)
          clear hnF hcF hmF hb
          go_wp2_with fail
          refine (M2.out _ (below_one HJ0.out)).mono ?_
          rintro e w2 ⟨AR, cR, rfl, hnR, hcR, hmR, hb⟩
          have NF := Lib.hid hnR
          have LF := Lib.hid (And.intro hcR hmR)
          have HJ := Lib.hid (HJ0.out.below hb)
          clear hnR hcR hmR hb
          have HJA := Lib.hid (HJ.out.below ((Below.refl w2.heap.size w2).alloc (Nat.le_refl _) (.cells #[.slice AR F2.length cR] 22)))
          have HK1 := Lib.hid (HJA.out.new (NF.out.below ((Below.refl w2.heap.size w2).alloc (Nat.le_refl _) (.cells #[.slice AR F2.length cR] 22))) LF.out.1 LF.out.2)
          have HC1 := Lib.hid (cell_one_new w2 (cellL (F2, AR, cR)) 22 0 _ rfl)
          have HS1 := Lib.hid (show σ.length ≤ 4194304 by have := HR.out.2.1; omega)
          have HSR := Lib.hid (show ρ.length ≤ 4194304 by have := HR.out.2.1; have h2 := congrArg List.length HR.out.2.2.1; rw [List.length_map, List.length_map] at h2; omega)
          go_wp2_with (at_builtin; (refine wpList_append_slN rfl (.tmp 37) (.tmp 39) 36 rfl (w.heap.size + 1) i0 Try.underlying36 hi0 hz0 hz1 hz2 u11 σ (by rfl) (Off u12 0 0) HJA.out.1.1 HJA.out.2.1 (F2, AR, cR) HK1.out ⟨w2.heap.size, 0, none⟩ (by rfl) HC1.out HS1.out HJA.out.2.2.2.2 ?_); intro v3 w3 hown3 hno3 hgr3 hat3)
          have HM3 := Lib.hid (HJA.out.grow hown3 hno3 hgr3 hat3)
          have N3 := Lib.hid (show Nodes Any w3 AR F2 from (hown3.2 (F2, AR, cR) (by simp)).1.mono fun _ _ _ => trivial)
          clear hown3 hno3 hgr3 hat3
          refine (lawCopy AR _ cR F2 w3 rfl (by have := g2.out.1; omega) g2.out.2 N3.out).mono ?_
          rintro e w4 ⟨v4, σ4, rfl, hO, hσ, -, -, hb⟩
          obtain ⟨A4, c4, rfl, hN4, hl4, hm4⟩ := hO.reads (S := fun b => w3.heap.size ≤ b) (fun b hb _ => hb)
          rw [hσ] at hN4
          rw [show σ4.length = F2.length by rw [← hσ, List.length_map]] at hl4 ⊢
          have HJB := Lib.hid ((HM3.out.below hb).below ((Below.refl w4.heap.size w4).alloc (Nat.le_refl _) (.cells #[.slice A4 F2.length c4] 22))).swap
          have HK4 := Lib.hid (HJB.out.new (hN4.any.below ((Below.refl w4.heap.size w4).alloc (Nat.le_refl _) (.cells #[.slice A4 F2.length c4] 22))) hl4 hm4)
          have HC4 := Lib.hid (cell_one_new w4 (cellL (F2, A4, c4)) 22 0 _ rfl)
          clear hO hσ hb hN4 hl4 hm4
          go_wp2_with (at_builtin; (refine wpList_append_slN rfl (.tmp 41) (.tmp 44) 36 rfl (w.heap.size + 1) i0 Try.underlying36 hi0 hz0 hz1 hz2 u12 ρ (by rfl) (Off v3 0 0) HJB.out.1.1 HJB.out.2.1 (F2, A4, c4) HK4.out ⟨w4.heap.size, 0, none⟩ (by rfl) HC4.out HSR.out HJB.out.2.2.2.2 ?_); intro v5 w5 hown5 hno5 hgr5 hat5)
          have HM5 := Lib.hid (HJB.out.grow hown5 hno5 hgr5 hat5).swap
          clear hown5 hno5 hgr5 hat5
          go_roundw
          case rel => exact ⟨k + 1, σ ++ [(F2, AR, cR)], ρ ++ [(F2, A4, c4)], by omega, by rw [hk1]; rfl, HM5.out, by rw [List.length_append, HR.out.2.1]; rfl, by rw [List.map_append, List.map_append, HR.out.2.2.1]; rfl, fun s hs => (List.mem_append.1 hs).elim (HR.out.2.2.2 s) fun h => by rw [List.mem_singleton.1 h]; exact g2.out.1⟩
          case measure => simp [intOf]; omega
        · have hzt : (z == 1) = false := beq_eq_false_iff_ne.2 hzo
          go_wp2_with fail
          refine (M1.out _ HB.out).mono ?_
          rintro e w1 ⟨AF, cF, rfl, hnF, hcF, hmF, hb⟩
          have NF := Lib.hid hnF
          have LF := Lib.hid (And.intro hcF hmF)
          have HJ := Lib.hid (HR.out.1.below hb)
          clear hnF hcF hmF hb
          have HJA := Lib.hid (HJ.out.below ((Below.refl w1.heap.size w1).alloc (Nat.le_refl _) (.cells #[.slice AF F1.length cF] 22)))
          have HK1 := Lib.hid (HJA.out.new (NF.out.below ((Below.refl w1.heap.size w1).alloc (Nat.le_refl _) (.cells #[.slice AF F1.length cF] 22))) LF.out.1 LF.out.2)
          have HC1 := Lib.hid (cell_one_new w1 (cellL (F1, AF, cF)) 22 0 _ rfl)
          have HS1 := Lib.hid (show σ.length ≤ 4194304 by have := HR.out.2.1; omega)
          have HSR := Lib.hid (show ρ.length ≤ 4194304 by have := HR.out.2.1; have h2 := congrArg List.length HR.out.2.2.1; rw [List.length_map, List.length_map] at h2; omega)
          go_wp2_with (at_builtin; (refine wpList_append_slN rfl (.tmp 37) (.tmp 39) 36 rfl (w.heap.size + 1) i0 Try.underlying36 hi0 hz0 hz1 hz2 u11 σ (by rfl) (Off u12 0 0) HJA.out.1.1 HJA.out.2.1 (F1, AF, cF) HK1.out ⟨w1.heap.size, 0, none⟩ (by rfl) HC1.out HS1.out HJA.out.2.2.2.2 ?_); intro v3 w3 hown3 hno3 hgr3 hat3)
          have HM3 := Lib.hid (HJA.out.grow hown3 hno3 hgr3 hat3)
          have N3 := Lib.hid (show Nodes Any w3 AF F1 from (hown3.2 (F1, AF, cF) (by simp)).1.mono fun _ _ _ => trivial)
          clear hown3 hno3 hgr3 hat3
          refine (lawCopy AF _ cF F1 w3 rfl (by have := g1.out.1; omega) g1.out.2 N3.out).mono ?_
          rintro e w4 ⟨v4, σ4, rfl, hO, hσ, -, -, hb⟩
          obtain ⟨A4, c4, rfl, hN4, hl4, hm4⟩ := hO.reads (S := fun b => w3.heap.size ≤ b) (fun b hb _ => hb)
          rw [hσ] at hN4
          rw [show σ4.length = F1.length by rw [← hσ, List.length_map]] at hl4 ⊢
          have HJB := Lib.hid ((HM3.out.below hb).below ((Below.refl w4.heap.size w4).alloc (Nat.le_refl _) (.cells #[.slice A4 F1.length c4] 22))).swap
          have HK4 := Lib.hid (HJB.out.new (hN4.any.below ((Below.refl w4.heap.size w4).alloc (Nat.le_refl _) (.cells #[.slice A4 F1.length c4] 22))) hl4 hm4)
          have HC4 := Lib.hid (cell_one_new w4 (cellL (F1, A4, c4)) 22 0 _ rfl)
          clear hO hσ hb hN4 hl4 hm4
          go_wp2_with (at_builtin; (refine wpList_append_slN rfl (.tmp 41) (.tmp 44) 36 rfl (w.heap.size + 1) i0 Try.underlying36 hi0 hz0 hz1 hz2 u12 ρ (by rfl) (Off v3 0 0) HJB.out.1.1 HJB.out.2.1 (F1, A4, c4) HK4.out ⟨w4.heap.size, 0, none⟩ (by rfl) HC4.out HSR.out HJB.out.2.2.2.2 ?_); intro v5 w5 hown5 hno5 hgr5 hat5)
          have HM5 := Lib.hid (HJB.out.grow hown5 hno5 hgr5 hat5).swap
          clear hown5 hno5 hgr5 hat5
          go_roundw
          case rel => exact ⟨k + 1, σ ++ [(F1, AF, cF)], ρ ++ [(F1, A4, c4)], by omega, by rw [hk1]; rfl, HM5.out, by rw [List.length_append, HR.out.2.1]; rfl, by rw [List.map_append, List.map_append, HR.out.2.2.1]; rfl, fun s hs => (List.mem_append.1 hs).elim (HR.out.2.2.2 s) fun h => by rw [List.mem_singleton.1 h]; exact g1.out.1⟩
          case measure => simp [intOf]; omega
      · obtain ⟨F1, hF1⟩ : ∃ F, makeL false zs = F := ⟨_, rfl⟩
        obtain ⟨F2, hF2⟩ : ∃ F, regMk false zs = F := ⟨_, rfl⟩
        have g1 := Lib.hid (And.intro GL.out.1 GK.out.1)
        have g2 := Lib.hid (And.intro GL.out.2.1 GK.out.2.1)
        have M1 := MA
        have M2 := RA
        rw [hF1] at g1 M1
        rw [hF2] at g2 M2
        clear hF1 hF2
        obtain ⟨z, hz⟩ : ∃ z, bits BinOp.and IntKind.u8 (rg / 4) 1 = z := ⟨_, rfl⟩
        by_cases hzo : z = 1
        · go_wp2_with fail
          refine (M1.out _ HB.out).mono ?_
          rintro e w1 ⟨AF, cF, rfl, hnF, hcF, hmF, hb⟩
          have HJ0 := Lib.hid (HR.out.1.below hb)
          clear hnF hcF hmF hb
          go_wp2_with fail
          refine (M2.out _ (below_one HJ0.out)).mono ?_
          rintro e w2 ⟨AR, cR, rfl, hnR, hcR, hmR, hb⟩
          have NF := Lib.hid hnR
          have LF := Lib.hid (And.intro hcR hmR)
          have HJ := Lib.hid (HJ0.out.below hb)
          clear hnR hcR hmR hb
          have HJA := Lib.hid (HJ.out.below ((Below.refl w2.heap.size w2).alloc (Nat.le_refl _) (.cells #[.slice AR F2.length cR] 22)))
          have HK1 := Lib.hid (HJA.out.new (NF.out.below ((Below.refl w2.heap.size w2).alloc (Nat.le_refl _) (.cells #[.slice AR F2.length cR] 22))) LF.out.1 LF.out.2)
          have HC1 := Lib.hid (cell_one_new w2 (cellL (F2, AR, cR)) 22 0 _ rfl)
          have HS1 := Lib.hid (show σ.length ≤ 4194304 by have := HR.out.2.1; omega)
          have HSR := Lib.hid (show ρ.length ≤ 4194304 by have := HR.out.2.1; have h2 := congrArg List.length HR.out.2.2.1; rw [List.length_map, List.length_map] at h2; omega)
          go_wp2_with (at_builtin; (refine wpList_append_slN rfl (.tmp 37) (.tmp 39) 36 rfl (w.heap.size + 1) i0 Try.underlying36 hi0 hz0 hz1 hz2 u11 σ (by rfl) (Off u12 0 0) HJA.out.1.1 HJA.out.2.1 (F2, AR, cR) HK1.out ⟨w2.heap.size, 0, none⟩ (by rfl) HC1.out HS1.out HJA.out.2.2.2.2 ?_); intro v3 w3 hown3 hno3 hgr3 hat3)
          have HM3 := Lib.hid (HJA.out.grow hown3 hno3 hgr3 hat3)
          have N3 := Lib.hid (show Nodes Any w3 AR F2 from (hown3.2 (F2, AR, cR) (by simp)).1.mono fun _ _ _ => trivial)
          clear hown3 hno3 hgr3 hat3
          refine (lawCopy AR _ cR F2 w3 rfl (by have := g2.out.1; omega) g2.out.2 N3.out).mono ?_
          rintro e w4 ⟨v4, σ4, rfl, hO, hσ, -, -, hb⟩
          obtain ⟨A4, c4, rfl, hN4, hl4, hm4⟩ := hO.reads (S := fun b => w3.heap.size ≤ b) (fun b hb _ => hb)
          rw [hσ] at hN4
          rw [show σ4.length = F2.length by rw [← hσ, List.length_map]] at hl4 ⊢
          have HJB := Lib.hid ((HM3.out.below hb).below ((Below.refl w4.heap.size w4).alloc (Nat.le_refl _) (.cells #[.slice A4 F2.length c4] 22))).swap
          have HK4 := Lib.hid (HJB.out.new (hN4.any.below ((Below.refl w4.heap.size w4).alloc (Nat.le_refl _) (.cells #[.slice A4 F2.length c4] 22))) hl4 hm4)
          have HC4 := Lib.hid (cell_one_new w4 (cellL (F2, A4, c4)) 22 0 _ rfl)
          clear hO hσ hb hN4 hl4 hm4
          go_wp2_with (at_builtin; (refine wpList_append_slN rfl (.tmp 41) (.tmp 44) 36 rfl (w.heap.size + 1) i0 Try.underlying36 hi0 hz0 hz1 hz2 u12 ρ (by rfl) (Off v3 0 0) HJB.out.1.1 HJB.out.2.1 (F2, A4, c4) HK4.out ⟨w4.heap.size, 0, none⟩ (by rfl) HC4.out HSR.out HJB.out.2.2.2.2 ?_); intro v5 w5 hown5 hno5 hgr5 hat5)
          have HM5 := Lib.hid (HJB.out.grow hown5 hno5 hgr5 hat5).swap
          clear hown5 hno5 hgr5 hat5
          go_roundw
          case rel => exact ⟨k + 1, σ ++ [(F2, AR, cR)], ρ ++ [(F2, A4, c4)], by omega, by rw [hk1]; rfl, HM5.out, by rw [List.length_append, HR.out.2.1]; rfl, by rw [List.map_append, List.map_append, HR.out.2.2.1]; rfl, fun s hs => (List.mem_append.1 hs).elim (HR.out.2.2.2 s) fun h => by rw [List.mem_singleton.1 h]; exact g2.out.1⟩
          case measure => simp [intOf]; omega
        · have hzt : (z == 1) = false := beq_eq_false_iff_ne.2 hzo
          go_wp2_with fail
          refine (M1.out _ HB.out).mono ?_
          rintro e w1 ⟨AF, cF, rfl, hnF, hcF, hmF, hb⟩
          have NF := Lib.hid hnF
          have LF := Lib.hid (And.intro hcF hmF)
          have HJ := Lib.hid (HR.out.1.below hb)
          clear hnF hcF hmF hb
          have HJA := Lib.hid (HJ.out.below ((Below.refl w1.heap.size w1).alloc (Nat.le_refl _) (.cells #[.slice AF F1.length cF] 22)))
          have HK1 := Lib.hid (HJA.out.new (NF.out.below ((Below.refl w1.heap.size w1).alloc (Nat.le_refl _) (.cells #[.slice AF F1.length cF] 22))) LF.out.1 LF.out.2)
          have HC1 := Lib.hid (cell_one_new w1 (cellL (F1, AF, cF)) 22 0 _ rfl)
          have HS1 := Lib.hid (show σ.length ≤ 4194304 by have := HR.out.2.1; omega)
          have HSR := Lib.hid (show ρ.length ≤ 4194304 by have := HR.out.2.1; have h2 := congrArg List.length HR.out.2.2.1; rw [List.length_map, List.length_map] at h2; omega)
          go_wp2_with (at_builtin; (refine wpList_append_slN rfl (.tmp 37) (.tmp 39) 36 rfl (w.heap.size + 1) i0 Try.underlying36 hi0 hz0 hz1 hz2 u11 σ (by rfl) (Off u12 0 0) HJA.out.1.1 HJA.out.2.1 (F1, AF, cF) HK1.out ⟨w1.heap.size, 0, none⟩ (by rfl) HC1.out HS1.out HJA.out.2.2.2.2 ?_); intro v3 w3 hown3 hno3 hgr3 hat3)
          have HM3 := Lib.hid (HJA.out.grow hown3 hno3 hgr3 hat3)
          have N3 := Lib.hid (show Nodes Any w3 AF F1 from (hown3.2 (F1, AF, cF) (by simp)).1.mono fun _ _ _ => trivial)
          clear hown3 hno3 hgr3 hat3
          refine (lawCopy AF _ cF F1 w3 rfl (by have := g1.out.1; omega) g1.out.2 N3.out).mono ?_
          rintro e w4 ⟨v4, σ4, rfl, hO, hσ, -, -, hb⟩
          obtain ⟨A4, c4, rfl, hN4, hl4, hm4⟩ := hO.reads (S := fun b => w3.heap.size ≤ b) (fun b hb _ => hb)
          rw [hσ] at hN4
          rw [show σ4.length = F1.length by rw [← hσ, List.length_map]] at hl4 ⊢
          have HJB := Lib.hid ((HM3.out.below hb).below ((Below.refl w4.heap.size w4).alloc (Nat.le_refl _) (.cells #[.slice A4 F1.length c4] 22))).swap
          have HK4 := Lib.hid (HJB.out.new (hN4.any.below ((Below.refl w4.heap.size w4).alloc (Nat.le_refl _) (.cells #[.slice A4 F1.length c4] 22))) hl4 hm4)
          have HC4 := Lib.hid (cell_one_new w4 (cellL (F1, A4, c4)) 22 0 _ rfl)
          clear hO hσ hb hN4 hl4 hm4
          go_wp2_with (at_builtin; (refine wpList_append_slN rfl (.tmp 41) (.tmp 44) 36 rfl (w.heap.size + 1) i0 Try.underlying36 hi0 hz0 hz1 hz2 u12 ρ (by rfl) (Off v3 0 0) HJB.out.1.1 HJB.out.2.1 (F1, A4, c4) HK4.out ⟨w4.heap.size, 0, none⟩ (by rfl) HC4.out HSR.out HJB.out.2.2.2.2 ?_); intro v5 w5 hown5 hno5 hgr5 hat5)
          have HM5 := Lib.hid (HJB.out.grow hown5 hno5 hgr5 hat5).swap
          clear hown5 hno5 hgr5 hat5
          go_roundw
          case rel => exact ⟨k + 1, σ ++ [(F1, AF, cF)], ρ ++ [(F1, A4, c4)], by omega, by rw [hk1]; rfl, HM5.out, by rw [List.length_append, HR.out.2.1]; rfl, by rw [List.map_append, List.map_append, HR.out.2.2.1]; rfl, fun s hs => (List.mem_append.1 hs).elim (HR.out.2.2.2 s) fun h => by rw [List.mem_singleton.1 h]; exact g1.out.1⟩
          case measure => simp [intOf]; omega
    · have hge : decide ((k : Int) < (q : Int)) = false := by simp; omega
      have hkq2 : k = q := by omega
      obtain ⟨Ak, ck, ek, hk1, hk2, -, -⟩ := HR.out.1.1.1.slice
      obtain ⟨Aw, cw, ew, hw1, hw2, -, -⟩ := HR.out.1.1.2.1.slice
      have hρ : ρ.length = q := by have h2 := congrArg List.length HR.out.2.2.1; rw [List.length_map, List.length_map] at h2; have := HR.out.2.1; omega
      have hσ : σ.length = q := by have := HR.out.2.1; omega
      have hO1 := HR.out.1.1.1
      have hO2 := HR.out.1.1.2.1
      subst ek
      subst ew
      have LK := Lib.hid hO1.lists
      have LW := Lib.hid hO2.lists
      rw [hσ] at hO1 ⊢
      rw [hρ] at hO2 ⊢
      have HSL := Lib.hid hσ
      have HRL := Lib.hid hρ
      have HEQ := Lib.hid HR.out.2.2.1
      have H100 := Lib.hid HR.out.2.2.2
      have H100W := Lib.hid (show ∀ s ∈ ρ, s.1.length ≤ 100 from fun s hs => by
        have hm : s.1 ∈ σ.map (·.1) := by rw [HR.out.2.2.1]; exact List.mem_map_of_mem hs
        obtain ⟨s', hs', e'⟩ := List.mem_map.1 hm
        rw [← e']
        exact HR.out.2.2.2 s' hs')
      have HBX := Lib.hid HR.out.1.2.2.2.1
      have HBZ := Lib.hid HR.out.1.2.2.2.2
      have hbx := HBX.out.mono (show (w.alloc (.cells #[.int .i64 nd0.kind, .string nd0.name, .int .i64 nd0.lo, .int .i64 nd0.hi, .slice K0 mk c0] 33)).heap.size ≤ w.heap.size + 1 by simp)
      have hx0 := below_cell hbx (box_cell 0 (.int .i64 nd0.kind) rfl)
      have hx1 := below_cell hbx (box_cell 1 (.string nd0.name) rfl)
      have hx2 := below_cell hbx (box_cell 2 (.int .i64 nd0.lo) rfl)
      have hx3 := below_cell hbx (box_cell 3 (.int .i64 nd0.hi) rfl)
      have hx4 := below_cell hbx (box_cell 4 (.slice K0 mk c0) rfl)
      have HALL := Lib.hid (show ∀ W, Below wr.heap.size wr W → W.cell? ⟨w.heap.size, 0, none⟩ = some (.int .i64 nd0.kind) ∧ W.cell? ⟨w.heap.size, 1, none⟩ = some (.string nd0.name) ∧ W.cell? ⟨w.heap.size, 2, none⟩ = some (.int .i64 nd0.lo) ∧ W.cell? ⟨w.heap.size, 3, none⟩ = some (.int .i64 nd0.hi) ∧ W.cell? ⟨w.heap.size, 4, none⟩ = some (.slice K0 mk c0) ∧ Below wr.heap.size wr W from
        fun W hb => ⟨below_cell hb hx0, below_cell hb hx1, below_cell hb hx2, below_cell hb hx3, below_cell hb hx4, hb⟩)
      obtain ⟨J, hJ⟩ : ∃ J, joinL nd0 (σ.map (·.1)) = J := ⟨_, rfl⟩
      have HOKW := Lib.hid (show NodeOk wr nd0 K0 c0 from HOK.out.below HB.out)
      have HPJ := Lib.hid (fun W (hb : Below wr.heap.size wr W) => landJoin nd0 K0 c0 Ak q ck σ W hσ (by omega) (fun s hs => by have := H100.out s hs; omega) (HOKW.out.below hb) HNM.out (LK.out.below hb))
      have HRJ := Lib.hid (fun W (hb : Below wr.heap.size wr W) => refJoin nd0 K0 c0 Aw q cw ρ W hρ (by omega) (fun s hs => by have := H100W.out s hs; omega) (HOKW.out.below hb) (LW.out.below hb))
      rw [hJ, HMK.out] at HPJ
      rw [← HR.out.2.2.1, hJ, HMK.out] at HRJ
      have HJL := Lib.hid (show J.length ≤ 4194304 by
        rw [← hJ]
        exact Nat.le_trans (join_len nd0 _ fun l hl => by obtain ⟨s, hs, rfl⟩ := List.mem_map.1 hl; exact H100.out s hs) (by omega))
      have HO1 := Lib.hid hO1
      have HO2 := Lib.hid hO2
      have HSN := Lib.hid (show ∀ (A5 A6 : Option Addr) (c5 c6 : Nat) (W : World), Nodes Any W A5 J → Nodes Any W A6 J → Calls Try.prog 17 #[.slice A5 J.length c5, .slice A6 J.length c6] W fun e w' => e = .returned (.bool true) ∧ Below W.heap.size W w' from fun A5 A6 c5 c6 W h5 h6 => by
        have hsm := refSameNodes A5 A6 J.length c5 J.length c6 J J W rfl rfl HJL.out h5 h6
        rw [decide_eq_true rfl] at hsm
        exact hsm)
      clear hO1 hO2 hσ hρ hJ hk1 hk2 hw1 hw2 hbx hx0 hx1 hx2 hx3 hx4 hkq2
      go_wp2

      go_region_held3 (fun W => W.cell? ⟨w.heap.size, 0, none⟩ = some (.int .i64 nd0.kind) ∧ W.cell? ⟨w.heap.size, 1, none⟩ = some (.string nd0.name) ∧ W.cell? ⟨w.heap.size, 2, none⟩ = some (.int .i64 nd0.lo) ∧ W.cell? ⟨w.heap.size, 3, none⟩ = some (.int .i64 nd0.hi) ∧ W.cell? ⟨w.heap.size, 4, none⟩ = some (.slice K0 mk c0) ∧ Below wr.heap.size wr W)
        (first
          | exact HALL.out _ (Below.refl _ _)
          | exact HALL.out _ (Below.refl _ _).drew
          | exact HALL.out _ hB3
          | exact HALL.out _ hB2
          | exact HALL.out _ hB1
          | fail)
        (first
          | (go_at_call 18; refine (HPJ.out _ (Below.refl _ _).drew).mono ?_; rintro e w5 ⟨A5, c5, rfl, hN5, -, -, hb5⟩; have hB1 : Below wr.heap.size wr w5 := undrew1 hb5)
          | (go_at_call 19; refine (HRJ.out _ hB1).mono ?_; rintro e w6 ⟨A6, c6, rfl, hN6, -, -, hb6⟩; have hB2 : Below wr.heap.size wr w6 := hB1.trans (hb6.mono hB1.size); have N5 := Lib.hid (hN5.below hb6))
          | (go_at_call 17; refine (HSN.out A5 A6 c5 c6 w6 N5.out hN6).mono ?_; rintro e w7 ⟨rfl, hb7⟩; have hB3 : Below wr.heap.size wr w7 := hB2.trans (hb7.mono hB2.size))
          | fail)
      have HB7 := Lib.hid hB3
      clear hB1 hB2 hB3 hN5 hN6 hb5 hb6 hb7
      go_wp2
      go_loopw [57] (fun v wx => ∃ j : Nat, j ≤ q ∧ v = .int .i64 j ∧ Hid (Below wr.heap.size wr wx)) (fun v _ => q - (intOf v).toNat)
      case atStart => exact ⟨0, Nat.zero_le _, rfl, HB7.out⟩
      case round =>
        obtain ⟨j, hj, rfl, HBW⟩ := hrel
        by_cases hjq : j < q
        · have hjq' : (j : Int) < (q : Int) := by omega
          have hj0 : (0 : Int) ≤ (j : Int) := by omega
          have hj3 : (j : Int) ≤ 3 := by omega
          obtain ⟨s, hs⟩ : ∃ s, σ[j]? = some s := ⟨_, List.getElem?_eq_getElem (by have := HSL.out; omega)⟩
          obtain ⟨r, hr⟩ : ∃ r, ρ[j]? = some r := ⟨_, List.getElem?_eq_getElem (by have := HRL.out; omega)⟩
          have hsr : s.1 = r.1 := by
            have h1 := congrArg (·[j]?) HEQ.out
            simp only [List.getElem?_map, hs, hr, Option.map_some, Option.some.injEq] at h1
            exact h1
          obtain ⟨g1, o1, e1, -, hc1⟩ := (LK.out.below HBW.out) (by have := HSL.out; omega)
          obtain ⟨g2, o2, e2, -, hc2⟩ := (LW.out.below HBW.out) (by have := HRL.out; omega)
          obtain ⟨x1, n1, -, -⟩ := hc1 j s hs
          obtain ⟨x2, n2, -, -⟩ := hc2 j r hr
          have h100 := H100.out s (List.mem_of_getElem? hs)
          obtain ⟨l, K1, d1⟩ := s
          obtain ⟨l', K2, d2⟩ := r
          simp only at hsr
          subst hsr
          obtain ⟨p, hp⟩ : ∃ p, l.length = p := ⟨_, rfl⟩
          simp only at n1 n2 h100
          have HALL2 := Lib.hid (show ∀ W, Below wr.heap.size wr W → W.cell? ⟨g1, o1 + j, none⟩ = some (.slice K1 p d1) ∧ W.cell? ⟨g2, o2 + j, none⟩ = some (.slice K2 p d2) ∧ Below wr.heap.size wr W from
            fun W hb => ⟨by rw [← hp]; exact below_cell hb x1, by rw [← hp]; exact below_cell hb x2, hb⟩)
          have HSN2 := Lib.hid (show ∀ W : World, Below wr.heap.size wr W → Calls Try.prog 17 #[.slice K1 p d1, .slice K2 p d2] W fun e w' => e = .returned (.bool true) ∧ Below W.heap.size W w' from fun W hb => by
            have hsm := refSameNodes K1 K2 p d1 p d2 l l W hp hp (by omega) (n1.below hb) (n2.below hb)
            rw [decide_eq_true rfl] at hsm
            exact hsm)
          subst e1
          subst e2
          clear x1 x2 n1 n2 hc1 hc2 hs hr hp h100 LK LW HPJ HRJ HSN HALL HO1 HO2
          go_wp2
          go_region_held3 (fun W => W.cell? ⟨g1, o1 + j, none⟩ = some (.slice K1 p d1) ∧ W.cell? ⟨g2, o2 + j, none⟩ = some (.slice K2 p d2) ∧ Below wr.heap.size wr W)
            (first
              | exact HALL2.out _ (Below.refl _ _)
              | exact HALL2.out _ (Below.refl _ _).drew
              | exact HALL2.out _ hB9
              | fail)
            (first
              | (go_at_call 17; refine (HSN2.out _ (Below.refl _ _).drew).mono ?_; rintro e w9 ⟨rfl, hb9⟩; have hB9 : Below wr.heap.size wr w9 := undrew1 hb9)
              | fail)
          have HB9 := Lib.hid (HBW.out.trans (hB9.mono HBW.out.size))
          clear hB9 hb9
          go_wp2
          go_roundw
          case rel => exact ⟨j + 1, by omega, by go_num, HB9⟩
          case measure => simp [intOf]; omega
        · have hge2 : decide ((j : Int) < (q : Int)) = false := by simp; omega
          have HBE := Lib.hid (HB.out.trans (HBW.out.mono HB.out.size))
          go_wp2_with fail
          refine (HA.out _).mono ?_
          rintro e w10 ⟨rfl, hb⟩
          have HBF := Lib.hid (HBE.out.trans (hb.mono HBE.out.size))
          clear hb
          go_wp2
          go_ret
          exact ⟨rfl, HBF.out⟩
end Go.Proofs.Ytmahbocelckmcaa.Tree
