/-
  The law's turned: a formula of time told backwards (stage 15). By an AI agent.
  slices.Reverse of a row of bools of one's own. By an AI agent.
  What is below stays: two steps in one; four cells kept (stage 15). By an AI agent.
-/
import Derived.Test.YtdbgaccnejffpaaGSatShift42
import Derived.Test.YtdbgaccnejffpaaGSatShift21
import Derived.Test.YtdbgaccnejffpaaGSatShift10
import Derived.Test.YtdbgaccnejffpaaGSatShift11
import Derived.Deep.Cut
import Derived.Test.YtdbgaccnejffpaaGSatShift2
import Derived.Test.YtdbgaccnejffpaaGSatShift1
namespace Go.Proofs.Ytdbgaccnejffpaa.Sat
open Go.RowKit Go.Proofs.Ytdbgaccnejffpaa.Ints Go.Proofs.Ytdbgaccnejffpaa.Mem Go.Proofs.Ytdbgaccnejffpaa.Src Go.Proofs.Ytdbgaccnejffpaa.Paths Go.Proofs.Ytdbgaccnejffpaa.Late Go.Proofs.Ytdbgaccnejffpaa.Trace
structure VN (w : World) (lo B n i : Nat) (F : Nat → List Tree.Nd) (σ : List Value) : Prop where
 row : w.ownsRow lo 29 1 (.slice (some ⟨B, 0, none⟩) n n) n σ
 told : ∀ j, j < i → ∃ A c, σ[j]? = some (.slice A (F j).length c) ∧ Tree.Nodes (fun b => b ≠ B) w A (F j) ∧ (F j).length ≤ c ∧ c ≤ maxLen
section
variable {w w' : World} {lo B n i : Nat} {F : Nat → List Tree.Nd} {σ : List Value}
theorem VN.below (h : VN w lo B n i F σ) (hb : Below w.heap.size w w') : VN w' lo B n i F σ :=
 ⟨below_row h.row hb, fun j hj => by
  obtain ⟨A, c, h1, h2, h3⟩ := h.told j hj
  exact ⟨A, c, h1, h2.below hb, h3⟩⟩
theorem VN.at (h : VN w lo B n i F σ) {j : Nat} {v : Value} (hv : σ[j]? = some v) : w.cell? ⟨B, j, none⟩ = some v := by
 have := World.ownsRow.cells h.row (g := B) rfl j v hv
 rwa [Addr.add_lit, Nat.zero_add] at this
theorem VN.put (h : VN w lo B n i F σ) (hi : i < n) {A : Option Addr} {c : Nat} (hA : Tree.Nodes (fun b => b ≠ B) w A (F i)) (hc : (F i).length ≤ c ∧ c ≤ maxLen) : VN (w.setCell ⟨B, i, none⟩ (.slice A (F i).length c)) lo B n (i + 1) F (σ.set i (.slice A (F i).length c)) := by
 have hlen : σ.length = n := by have := h.row.1; rwa [Nat.mul_one] at this
 have key : ∀ (A' : Option Addr) (m : List Tree.Nd), Tree.Nodes (fun b => b ≠ B) w A' m → Tree.Nodes (fun b => b ≠ B) (w.setCell ⟨B, i, none⟩ (.slice A (F i).length c)) A' m := fun A' m hx => hx.keep fun p u hp hu => (World.cell?_setCell_far w ⟨B, i, none⟩ p _ (fun e => hp e.symm)).trans hu
 refine ⟨own_put h.row _, fun j hj => ?_⟩
 by_cases e : j = i
 ·subst e
  exact ⟨_, c, by rw [List.getElem?_set, if_pos rfl, if_pos (by omega)], key _ _ hA, hc⟩
 ·obtain ⟨A', c', h1, h2, h3⟩ := h.told j (by omega)
  exact ⟨A', c', by rw [List.getElem?_set, if_neg (fun x => e x.symm)]; exact h1, key _ _ h2, h3⟩
end
theorem turn_len {l : List Tree.Nd} (h : Tree.mayL l = true) {i : Nat} (hi : i < l.length) : (turnI l i).length ≤ l.length := by
 have h1 := (turn_ok h i hi).2.2.1
 omega
theorem turn_small {k : Int} (h : Tree.small64 k) (hf : 1 ≤ k ∧ k ≤ 22) : Tree.small64 (turnK k) := by
 unfold Tree.small64 at *
 rcases turnK_ways k with e | e | e | e | e | e | e | e | e | e | e <;> omega
theorem got_off {V W : World} {B : Nat} {m : List Tree.Nd} {e : Ending} (h : Tree.GotNodes (Tree.From (fun b => b ≠ B) V.heap.size) V m e W) (hB : B < V.heap.size) : ∃ A c, e = .returned (.slice A m.length c) ∧ Tree.Nodes (fun b => b ≠ B) W A m ∧ (m.length ≤ c ∧ c ≤ maxLen) ∧ Below V.heap.size V W := by
 obtain ⟨A, c, h1, h2, h3, h4, h5⟩ := h
 exact ⟨A, c, h1, h2.mono fun b _ hb => by rcases hb with hb | hb
                                           ·exact hb
                                           ·exact (by omega : b ≠ B), ⟨h3, h4⟩, h5⟩
theorem overM (kd : Int) (nm : ByteArray) (lo hi : Int) (ks : List Int) (K : Option Addr) (m cK : Nat) (A B : Option Addr) (na nb ca cb : Nat) (a b : List Tree.Nd) (S : Nat → Prop) (w : World) (hm : ks.length = m) (ha : a.length = na) (hb : b.length = nb) (han : na ≤ 1048576) (hbn : nb ≤ 1048576)
  (h0 : Tree.NodeOk w ⟨kd, nm, lo, hi, ks⟩ K cK) (hA : Tree.Nodes S w A a) (hB : Tree.Nodes Tree.Any w B b) (hmv : Tree.Movable b) :
  Calls Try.prog 20 #[.agg #[.int .i64 kd, .string nm, .int .i64 lo, .int .i64 hi, .slice K m cK], .slice A na ca, .slice B nb cb] w (Tree.GotNodes (Tree.From S w.heap.size) w (Tree.overL ⟨kd, nm, lo, hi, ks⟩ a b)) := by
 subst hm
 exact Tree.refOver ⟨kd, nm, lo, hi, ks⟩ K cK A B na nb ca cb a b S w ha hb han hbn h0 hA hB hmv
set_option maxHeartbeats 16000000 in
set_option maxRecDepth 100000 in
theorem lawTurned (A : Option Addr) (n c : Nat) (l : List Tree.Nd) (w : World) (hN : Tree.Nodes Tree.Any w A l) (hl : l.length = n) (hm : Tree.mayL l = true) (hnc : n ≤ c ∧ c ≤ maxLen) (hn : n ≤ 1000) :
  Calls Try.prog 11 #[.slice A n c] w (Tree.GotNodes Tree.Any w (turnI l (n - 1))) := by
 have q63 : maxLen = 9223372036854775807 := rfl
 obtain ⟨i1, hi1, hy0, hy1, hy2⟩ := info_parts Tree.infoLists
 have hni : ((n : Nat) : Int) ≤ 1000 := by omega
 have b2 : i1.bytes * n ≤ 281474976710656 := by rw [hy2]; omega
 have b3 : n ≤ maxLen := by omega
 have HN := Lib.hid hN
 have HL := Lib.hid (And.intro hl (And.intro hm hnc))
 have hn1 : 1 ≤ n := by rw [← hl]; exact Tree.may_ne hm
 clear hN hl hm hnc
 go_enter Try.func11, Try.ntmps11
 go_wp2_with (at_make; refine wpList_make_full _ rfl (.tmp 9) (.tmp 9) 45 rfl w.heap.size 29 i1 (.slice none 0 0) 1 Try.underlying45 hi1 hy0 hy1 .i64 .i64 _ _ n rfl rfl rfl rfl b2 b3 (Nat.le_refl _) ?_; intro w1 hmade hgr1; rw [made_slices] at hmade)
 have hg1 : Below w.heap.size w w1 := ⟨hgr1.os, hgr1.tape, hgr1.output, hgr1.size, fun k hk => hgr1.block k hk (by simp)⟩
 obtain ⟨B, hB⟩ : ∃ B, w.heap.size = B := ⟨_, rfl⟩
 have HV0 := Lib.hid (show VN w1 B B n 0 (turnI l) (List.replicate n (.slice none 0 0)) from ⟨by rw [← hB]; exact hmade, fun j hj => absurd hj (Nat.not_lt_zero _)⟩)
 have HB1 := Lib.hid hg1
 have HBe := Lib.hid hB
 rw [hB]
 clear hmade hgr1 hg1 hB
 go_loopw [4, 5, 6, 7, 13] (fun _ _ _ _ v wr => ∃ (k : Nat) (σ : List Value), v = .int .i64 ((k : Nat) : Int) ∧ k ≤ n ∧ VN wr B B n k (turnI l) σ ∧ Below w.heap.size w wr) (fun _ _ _ _ v _ => n - (intOf v).toNat)
 case atStart => exact ⟨0, _, rfl, Nat.zero_le _, HV0.out, HB1.out⟩
 case round =>
  obtain ⟨k, σ, rfl, hkn, hV, hBw⟩ := hrel
  have HV := Lib.hid hV
  have HW := Lib.hid hBw
  by_cases hlt : k < n
  ·have hkl : k < l.length := by rw [HL.out.1]; exact hlt
   obtain ⟨b, off, nd, K, m, cK, hA, hnc⟩ := node_cells HN.out HL.out.2.1 hkl
   subst hA
   have hnw := hnc.below hBw
   have HNC := Lib.hid hnw
   have HTL := Lib.hid (fun j (hj : j < n) => (show (turnI l j).length ≤ n from by rw [← HL.out.1]; exact turn_len HL.out.2.1 (by rw [HL.out.1]; exact hj)))
   have HML := Lib.hid (fun j (hj : j < n) => (turn_ok HL.out.2.1 j (by rw [HL.out.1]; exact hj)).1)
   have hf := node_fields HL.out.2.1 hnc.hk
   unfold Tree.fieldsB at hf
   rw [Bool.and_eq_true] at hf
   have hr := (Tree.kinds_range nd.kind).1 hf.1
   have hsm := turn_small hnc.ok.1 hr
   have x0 := hnw.x0
   have x1 := hnw.x1
   have x2 := hnw.x2
   have x3 := hnw.x3
   have x4 := hnw.x4
   have har := hnc.arity
   have hlen := hnc.len
   obtain ⟨kd, nm, lo, hi2, ks⟩ := nd
   have hki : ((k : Nat) : Int) < ((n : Nat) : Int) := by omega
   obtain ⟨kd2, hk2⟩ : ∃ x, turnK kd = x := ⟨_, rfl⟩
   obtain ⟨W5, hW5⟩ : ∃ W5, wr.alloc (.cells #[.int .i64 kd2, .string nm, .int .i64 lo, .int .i64 hi2, .slice K m cK] 52) = W5 := ⟨_, rfl⟩
   have hb5 : Below wr.heap.size wr W5 := by rw [← hW5]; exact (Below.refl _ _).alloc (Nat.le_refl _) _
   have z0 : W5.cell? ⟨wr.heap.size, 0, none⟩ = some (.int .i64 kd2) := by rw [← hW5]; exact box_cell 0 _ rfl
   have z1 : W5.cell? ⟨wr.heap.size, 1, none⟩ = some (.string nm) := by rw [← hW5]; exact box_cell 1 _ rfl
   have z2 : W5.cell? ⟨wr.heap.size, 2, none⟩ = some (.int .i64 lo) := by rw [← hW5]; exact box_cell 2 _ rfl
   have z3 : W5.cell? ⟨wr.heap.size, 3, none⟩ = some (.int .i64 hi2) := by rw [← hW5]; exact box_cell 3 _ rfl
   have z4 : W5.cell? ⟨wr.heap.size, 4, none⟩ = some (.slice K m cK) := by rw [← hW5]; exact box_cell 4 _ rfl
   have HZ := Lib.hid (And.intro z0 (And.intro z1 (And.intro z2 (And.intro z3 z4))))
   have HW5 := Lib.hid hW5
   have HN5 := Lib.hid (hnw.below hb5)
   have HV5 := Lib.hid (hV.below hb5)
   have HB5 := Lib.hid (hBw.trans (hb5.mono hBw.size))
   have HBs := Lib.hid (show B < W5.heap.size from Nat.lt_of_lt_of_le (World.ownsRow.lt hV.row B rfl).2 hb5.size)
   clear hV hBw hnc hnw hf hb5 hW5 z0 z1 z2 z3 z4
   have HSM := Lib.hid (show Tree.small64 kd2 from by rw [← hk2]; exact hsm)
   have HRE := Lib.hid (show reKind turnK ⟨kd, nm, lo, hi2, ks⟩ = ⟨kd2, nm, lo, hi2, ks⟩ from by show (⟨turnK kd, nm, lo, hi2, ks⟩ : Tree.Nd) = _; rw [hk2])
   have hw := turnK_ways kd
   rw [hk2] at hw
   have hw : ((kd = 8 ∧ kd2 = 9) ∨ (kd = 9 ∧ kd2 = 8) ∨ (kd = 10 ∧ kd2 = 12) ∨ (kd = 11 ∧ kd2 = 13) ∨ (kd = 12 ∧ kd2 = 10) ∨ (kd = 13 ∧ kd2 = 11) ∨ (kd = 16 ∧ kd2 = 17) ∨ (kd = 17 ∧ kd2 = 16)) ∨ ((kd = 14 ∧ kd2 = 15) ∨ (kd = 15 ∧ kd2 = 14)) ∨ (kd2 = kd ∧ kd ≠ 8 ∧ kd ≠ 9 ∧ kd ≠ 10 ∧ kd ≠ 11 ∧ kd ≠ 12 ∧ kd ≠ 13 ∧ kd ≠ 14 ∧ kd ≠ 15 ∧ kd ≠ 16 ∧ kd ≠ 17) := by
    rcases hw with h | h | h | h | h | h | h | h | h | h | h
    ·exact .inl (.inl h)
    ·exact .inl (.inr (.inl h))
    ·exact .inl (.inr (.inr (.inl h)))
    ·exact .inl (.inr (.inr (.inr (.inl h))))
    ·exact .inl (.inr (.inr (.inr (.inr (.inl h)))))
    ·exact .inl (.inr (.inr (.inr (.inr (.inr (.inl h))))))
    ·exact .inr (.inl (.inl h))
    ·exact .inr (.inl (.inr h))
    ·exact .inl (.inr (.inr (.inr (.inr (.inr (.inr (.inl h)))))))
    ·exact .inl (.inr (.inr (.inr (.inr (.inr (.inr (.inr h)))))))
    ·exact .inr (.inr h)
   clear hsm hr
   rcases hw with hw | hw | hw
   ·have hm1 : m = 1 := by rw [har]; rcases hw with ⟨rfl, -⟩ | ⟨rfl, -⟩ | ⟨rfl, -⟩ | ⟨rfl, -⟩ | ⟨rfl, -⟩ | ⟨rfl, -⟩ | ⟨rfl, -⟩ | ⟨rfl, -⟩ <;> rfl
    subst hm1
    rcases hw with ⟨rfl, rfl⟩ | ⟨rfl, rfl⟩ | ⟨rfl, rfl⟩ | ⟨rfl, rfl⟩ | ⟨rfl, rfl⟩ | ⟨rfl, rfl⟩ | ⟨rfl, rfl⟩ | ⟨rfl, rfl⟩
    all_goals
     obtain ⟨kb0, ko0, hK0, y0, hq0⟩ := HN5.out.kids 0 (by decide)
     obtain ⟨j0, hj0⟩ : ∃ j, kidN l k 0 = j := ⟨_, rfl⟩
     rw [hj0] at y0 hq0
     obtain ⟨A0, c0, e0, hA0, -⟩ := HV5.out.told j0 hq0
     have t0 := HV5.out.at e0
     obtain ⟨n0, hn0⟩ : ∃ q, (turnI l j0).length = q := ⟨_, rfl⟩
     rw [hn0] at t0
     have hs0 : n0 ≤ 1000 := by rw [← hn0]; exact Nat.le_trans (HTL.out j0 (by omega)) hn
     have hji0 : ((j0 : Nat) : Int) < ((n : Nat) : Int) := by omega
     rw [Nat.add_zero] at y0
     subst hK0
     have hOV := overM _ nm lo hi2 ks _ 1 cK A0 none n0 0 c0 0 (turnI l j0) [] (fun b => b ≠ B) W5 hlen hn0 rfl (by omega) (by decide) ⟨HSM.out, HN5.out.ok.2⟩ hA0 (Tree.Nodes.nil _ _ _) Tree.movable_nil
     have hT := turnI_one HL.out.2.1 HN5.out.hk (har.symm)
     rw [hj0, HRE.out] at hT
     rw [← hT] at hOV
     have HOV := Lib.hid hOV
     clear hOV hT hlen har hk2 hA0 e0 hn0 hs0 hj0 hq0
     go_upto_region 20 with fail
     rw [HW5.out]
     obtain ⟨z0, z1, z2, z3, z4⟩ := HZ.out
     clear x0 x1 x2 x3 x4
     go_wp2_with fail
     refine HOV.out.mono ?_
     intro e w6 hG
     obtain ⟨A6, c6, rfl, hN6, hc6, hb6⟩ := got_off hG HBs.out
     have hV6 := HV5.out.below hb6
     obtain ⟨u6, hu6⟩ : ∃ u, σ[k]? = some u := ⟨_, List.getElem?_eq_getElem (by have := hV6.row.1; omega)⟩
     have c6k := hV6.at hu6
     have f6k := own_fz hV6.row k
     have HV7 := Lib.hid (hV6.put hlt hN6 hc6)
     have HB7 := Lib.hid ((HB5.out.trans (hb6.mono HB5.out.size)).setCell (p := ⟨B, k, none⟩) (show w.heap.size ≤ B by rw [HBe.out]; exact Nat.le_refl _) (.slice A6 (turnI l k).length c6))
     obtain ⟨n6, hn6⟩ : ∃ q, (turnI l k).length = q := ⟨_, rfl⟩
     rw [hn6] at HV7 HB7 ⊢
     clear hG hN6 hc6 hb6 hV6 hu6 hn6
     go_wp2_with fail
     go_roundw
     case rel => exact ⟨k + 1, _, by simp, by omega, HV7.out, HB7.out⟩
     case measure => (show n - (k + 1) < n - k; omega)
   ·have hm2 : m = 2 := by rw [har]; rcases hw with ⟨rfl, -⟩ | ⟨rfl, -⟩ <;> rfl
    subst hm2
    have HKD := Lib.hid (show ¬ kd = 21 from by omega)
    rcases hw with ⟨rfl, rfl⟩ | ⟨rfl, rfl⟩
    all_goals
     obtain ⟨kb0, ko0, hK0, y0, hq0⟩ := HN5.out.kids 0 (by decide)
     obtain ⟨j0, hj0⟩ : ∃ j, kidN l k 0 = j := ⟨_, rfl⟩
     rw [hj0] at y0 hq0
     obtain ⟨A0, c0, e0, hA0, -⟩ := HV5.out.told j0 hq0
     have t0 := HV5.out.at e0
     obtain ⟨n0, hn0⟩ : ∃ q, (turnI l j0).length = q := ⟨_, rfl⟩
     rw [hn0] at t0
     have hs0 : n0 ≤ 1000 := by rw [← hn0]; exact Nat.le_trans (HTL.out j0 (by omega)) hn
     have hji0 : ((j0 : Nat) : Int) < ((n : Nat) : Int) := by omega
     obtain ⟨kb1, ko1, hK1, y1, hq1⟩ := HN5.out.kids 1 (by decide)
     obtain ⟨j1, hj1⟩ : ∃ j, kidN l k 1 = j := ⟨_, rfl⟩
     rw [hj1] at y1 hq1
     obtain ⟨A1, c1, e1, hA1, -⟩ := HV5.out.told j1 hq1
     have t1 := HV5.out.at e1
     obtain ⟨n1, hn1⟩ : ∃ q, (turnI l j1).length = q := ⟨_, rfl⟩
     rw [hn1] at t1
     have hs1 : n1 ≤ 1000 := by rw [← hn1]; exact Nat.le_trans (HTL.out j1 (by omega)) hn
     have hji1 : ((j1 : Nat) : Int) < ((n : Nat) : Int) := by omega
     rw [Nat.add_zero] at y0
     subst hK0
     obtain ⟨rfl, rfl⟩ : kb0 = kb1 ∧ ko0 = ko1 := by
      injection hK1 with h
      injection h with h1 h2 _
      exact ⟨h1, h2⟩
     clear hK1
     have hOV := overM _ nm lo hi2 ks _ 2 cK A0 A1 n0 n1 c0 c1 (turnI l j0) (turnI l j1) (fun b => b ≠ B) W5 hlen hn0 hn1 (by omega) (by omega) ⟨HSM.out, HN5.out.ok.2⟩ hA0 (hA1.mono fun _ _ _ => trivial) (Tree.movable_may (HML.out j1 (by omega)) (by omega))
     have hT := turnI_two HL.out.2.1 HN5.out.hk (har.symm)
     rw [if_neg (by exact HKD.out), hj0, hj1, HRE.out] at hT
     rw [← hT] at hOV
     have HOV := Lib.hid hOV
     clear hOV hT hlen har hk2 hA0 e0 hn0 hs0 hj0 hq0 hA1 e1 hn1 hs1 hj1 hq1
     go_upto_region 20 with fail
     rw [HW5.out]
     obtain ⟨z0, z1, z2, z3, z4⟩ := HZ.out
     clear x0 x1 x2 x3 x4
     go_wp2_with fail
     refine HOV.out.mono ?_
     intro e w6 hG
     obtain ⟨A6, c6, rfl, hN6, hc6, hb6⟩ := got_off hG HBs.out
     have hV6 := HV5.out.below hb6
     obtain ⟨u6, hu6⟩ : ∃ u, σ[k]? = some u := ⟨_, List.getElem?_eq_getElem (by have := hV6.row.1; omega)⟩
     have c6k := hV6.at hu6
     have f6k := own_fz hV6.row k
     have HV7 := Lib.hid (hV6.put hlt hN6 hc6)
     have HB7 := Lib.hid ((HB5.out.trans (hb6.mono HB5.out.size)).setCell (p := ⟨B, k, none⟩) (show w.heap.size ≤ B by rw [HBe.out]; exact Nat.le_refl _) (.slice A6 (turnI l k).length c6))
     obtain ⟨n6, hn6⟩ : ∃ q, (turnI l k).length = q := ⟨_, rfl⟩
     rw [hn6] at HV7 HB7 ⊢
     clear hG hN6 hc6 hb6 hV6 hu6 hn6
     go_wp2_with fail
     go_roundw
     case rel => exact ⟨k + 1, _, by simp, by omega, HV7.out, HB7.out⟩
     case measure => (show n - (k + 1) < n - k; omega)
   ·obtain ⟨rfl, k8, k9, k10, k11, k12, k13, k14, k15, k16, k17⟩ := hw
    have q8 : (kd2 == 8) = false := beq_false_of_ne k8
    have q9 : (kd2 == 9) = false := beq_false_of_ne k9
    have q10 : (kd2 == 10) = false := beq_false_of_ne k10
    have q11 : (kd2 == 11) = false := beq_false_of_ne k11
    have q12 : (kd2 == 12) = false := beq_false_of_ne k12
    have q13 : (kd2 == 13) = false := beq_false_of_ne k13
    have q14 : (kd2 == 14) = false := beq_false_of_ne k14
    have q15 : (kd2 == 15) = false := beq_false_of_ne k15
    have q16 : (kd2 == 16) = false := beq_false_of_ne k16
    have q17 : (kd2 == 17) = false := beq_false_of_ne k17
    rcases kidc_ways kd2 with e | e | e
    ·have hm0 : m = 0 := har.trans e
     have h21 : (kd2 == 21) = false := beq_false_of_ne (fun x => by rw [x] at e; exact absurd e (by decide))
     subst hm0
     have hOV := overM _ nm lo hi2 ks K 0 cK none none 0 0 0 0 [] [] (fun b => b ≠ B) W5 hlen rfl rfl (by decide) (by decide) ⟨HSM.out, HN5.out.ok.2⟩ (Tree.Nodes.nil _ _ _) (Tree.Nodes.nil _ _ _) Tree.movable_nil
     have hT := turnI_zero HN5.out.hk (har.symm)
     rw [HRE.out] at hT
     rw [← hT] at hOV
     have HOV := Lib.hid hOV
     clear hOV hT hlen har hk2
     go_upto_region 20 with fail
     rw [HW5.out]
     obtain ⟨z0, z1, z2, z3, z4⟩ := HZ.out
     clear x0 x1 x2 x3 x4
     go_wp2_with fail
     refine HOV.out.mono ?_
     intro e w6 hG
     obtain ⟨A6, c6, rfl, hN6, hc6, hb6⟩ := got_off hG HBs.out
     have hV6 := HV5.out.below hb6
     obtain ⟨u6, hu6⟩ : ∃ u, σ[k]? = some u := ⟨_, List.getElem?_eq_getElem (by have := hV6.row.1; omega)⟩
     have c6k := hV6.at hu6
     have f6k := own_fz hV6.row k
     have HV7 := Lib.hid (hV6.put hlt hN6 hc6)
     have HB7 := Lib.hid ((HB5.out.trans (hb6.mono HB5.out.size)).setCell (p := ⟨B, k, none⟩) (show w.heap.size ≤ B by rw [HBe.out]; exact Nat.le_refl _) (.slice A6 (turnI l k).length c6))
     obtain ⟨n6, hn6⟩ : ∃ q, (turnI l k).length = q := ⟨_, rfl⟩
     rw [hn6] at HV7 HB7 ⊢
     clear hG hN6 hc6 hb6 hV6 hu6 hn6
     go_wp2_with fail
     go_roundw
     case rel => exact ⟨k + 1, _, by simp, by omega, HV7.out, HB7.out⟩
     case measure => (show n - (k + 1) < n - k; omega)
    ·have hm1 : m = 1 := har.trans e
     have h21 : (kd2 == 21) = false := beq_false_of_ne (fun x => by rw [x] at e; exact absurd e (by decide))
     subst hm1
     obtain ⟨kb0, ko0, hK0, y0, hq0⟩ := HN5.out.kids 0 (by decide)
     obtain ⟨j0, hj0⟩ : ∃ j, kidN l k 0 = j := ⟨_, rfl⟩
     rw [hj0] at y0 hq0
     obtain ⟨A0, c0, e0, hA0, -⟩ := HV5.out.told j0 hq0
     have t0 := HV5.out.at e0
     obtain ⟨n0, hn0⟩ : ∃ q, (turnI l j0).length = q := ⟨_, rfl⟩
     rw [hn0] at t0
     have hs0 : n0 ≤ 1000 := by rw [← hn0]; exact Nat.le_trans (HTL.out j0 (by omega)) hn
     have hji0 : ((j0 : Nat) : Int) < ((n : Nat) : Int) := by omega
     rw [Nat.add_zero] at y0
     subst hK0
     have hOV := overM _ nm lo hi2 ks _ 1 cK A0 none n0 0 c0 0 (turnI l j0) [] (fun b => b ≠ B) W5 hlen hn0 rfl (by omega) (by decide) ⟨HSM.out, HN5.out.ok.2⟩ hA0 (Tree.Nodes.nil _ _ _) Tree.movable_nil
     have hT := turnI_one HL.out.2.1 HN5.out.hk (har.symm)
     rw [hj0, HRE.out] at hT
     rw [← hT] at hOV
     have HOV := Lib.hid hOV
     clear hOV hT hlen har hk2 hA0 e0 hn0 hs0 hj0 hq0
     go_upto_region 20 with fail
     rw [HW5.out]
     obtain ⟨z0, z1, z2, z3, z4⟩ := HZ.out
     clear x0 x1 x2 x3 x4
     go_wp2_with fail
     refine HOV.out.mono ?_
     intro e w6 hG
     obtain ⟨A6, c6, rfl, hN6, hc6, hb6⟩ := got_off hG HBs.out
     have hV6 := HV5.out.below hb6
     obtain ⟨u6, hu6⟩ : ∃ u, σ[k]? = some u := ⟨_, List.getElem?_eq_getElem (by have := hV6.row.1; omega)⟩
     have c6k := hV6.at hu6
     have f6k := own_fz hV6.row k
     have HV7 := Lib.hid (hV6.put hlt hN6 hc6)
     have HB7 := Lib.hid ((HB5.out.trans (hb6.mono HB5.out.size)).setCell (p := ⟨B, k, none⟩) (show w.heap.size ≤ B by rw [HBe.out]; exact Nat.le_refl _) (.slice A6 (turnI l k).length c6))
     obtain ⟨n6, hn6⟩ : ∃ q, (turnI l k).length = q := ⟨_, rfl⟩
     rw [hn6] at HV7 HB7 ⊢
     clear hG hN6 hc6 hb6 hV6 hu6 hn6
     go_wp2_with fail
     go_roundw
     case rel => exact ⟨k + 1, _, by simp, by omega, HV7.out, HB7.out⟩
     case measure => (show n - (k + 1) < n - k; omega)
    ·have hm2 : m = 2 := har.trans e
     subst hm2
     by_cases h21 : kd2 = 21
     ·subst h21
      obtain ⟨kb0, ko0, hK0, y0, hq0⟩ := HN5.out.kids 0 (by decide)
      obtain ⟨j0, hj0⟩ : ∃ j, kidN l k 0 = j := ⟨_, rfl⟩
      rw [hj0] at y0 hq0
      obtain ⟨A0, c0, e0, hA0, -⟩ := HV5.out.told j0 hq0
      have t0 := HV5.out.at e0
      obtain ⟨n0, hn0⟩ : ∃ q, (turnI l j0).length = q := ⟨_, rfl⟩
      rw [hn0] at t0
      have hs0 : n0 ≤ 1000 := by rw [← hn0]; exact Nat.le_trans (HTL.out j0 (by omega)) hn
      have hji0 : ((j0 : Nat) : Int) < ((n : Nat) : Int) := by omega
      obtain ⟨kb1, ko1, hK1, y1, hq1⟩ := HN5.out.kids 1 (by decide)
      obtain ⟨j1, hj1⟩ : ∃ j, kidN l k 1 = j := ⟨_, rfl⟩
      rw [hj1] at y1 hq1
      obtain ⟨A1, c1, e1, hA1, -⟩ := HV5.out.told j1 hq1
      have t1 := HV5.out.at e1
      obtain ⟨n1, hn1⟩ : ∃ q, (turnI l j1).length = q := ⟨_, rfl⟩
      rw [hn1] at t1
      have hs1 : n1 ≤ 1000 := by rw [← hn1]; exact Nat.le_trans (HTL.out j1 (by omega)) hn
      have hji1 : ((j1 : Nat) : Int) < ((n : Nat) : Int) := by omega
      rw [Nat.add_zero] at y0
      subst hK0
      obtain ⟨rfl, rfl⟩ : kb0 = kb1 ∧ ko0 = ko1 := by
       injection hK1 with h
       injection h with h1 h2 _
       exact ⟨h1, h2⟩
      clear hK1
      have hOV := overM _ nm lo hi2 ks _ 2 cK A1 A0 n1 n0 c1 c0 (turnI l j1) (turnI l j0) (fun b => b ≠ B) W5 hlen hn1 hn0 (by omega) (by omega) ⟨HSM.out, HN5.out.ok.2⟩ hA1 (hA0.mono fun _ _ _ => trivial) (Tree.movable_may (HML.out j0 (by omega)) (by omega))
      have hT := turnI_two HL.out.2.1 HN5.out.hk (har.symm)
      rw [if_pos (by exact rfl), hj0, hj1, HRE.out] at hT
      rw [← hT] at hOV
      have HOV := Lib.hid hOV
      clear hOV hT hlen har hk2 hA0 e0 hn0 hs0 hj0 hq0 hA1 e1 hn1 hs1 hj1 hq1
      go_upto_region 20 with fail
      rw [HW5.out]
      obtain ⟨z0, z1, z2, z3, z4⟩ := HZ.out
      clear x0 x1 x2 x3 x4
      go_wp2_with fail
      refine HOV.out.mono ?_
      intro e w6 hG
      obtain ⟨A6, c6, rfl, hN6, hc6, hb6⟩ := got_off hG HBs.out
      have hV6 := HV5.out.below hb6
      obtain ⟨u6, hu6⟩ : ∃ u, σ[k]? = some u := ⟨_, List.getElem?_eq_getElem (by have := hV6.row.1; omega)⟩
      have c6k := hV6.at hu6
      have f6k := own_fz hV6.row k
      have HV7 := Lib.hid (hV6.put hlt hN6 hc6)
      have HB7 := Lib.hid ((HB5.out.trans (hb6.mono HB5.out.size)).setCell (p := ⟨B, k, none⟩) (show w.heap.size ≤ B by rw [HBe.out]; exact Nat.le_refl _) (.slice A6 (turnI l k).length c6))
      obtain ⟨n6, hn6⟩ : ∃ q, (turnI l k).length = q := ⟨_, rfl⟩
      rw [hn6] at HV7 HB7 ⊢
      clear hG hN6 hc6 hb6 hV6 hu6 hn6
      go_wp2_with fail
      go_roundw
      case rel => exact ⟨k + 1, _, by simp, by omega, HV7.out, HB7.out⟩
      case measure => (show n - (k + 1) < n - k; omega)
     ·have HKD := Lib.hid h21
      have h21 : (kd2 == 21) = false := beq_false_of_ne h21
      obtain ⟨kb0, ko0, hK0, y0, hq0⟩ := HN5.out.kids 0 (by decide)
      obtain ⟨j0, hj0⟩ : ∃ j, kidN l k 0 = j := ⟨_, rfl⟩
      rw [hj0] at y0 hq0
      obtain ⟨A0, c0, e0, hA0, -⟩ := HV5.out.told j0 hq0
      have t0 := HV5.out.at e0
      obtain ⟨n0, hn0⟩ : ∃ q, (turnI l j0).length = q := ⟨_, rfl⟩
      rw [hn0] at t0
      have hs0 : n0 ≤ 1000 := by rw [← hn0]; exact Nat.le_trans (HTL.out j0 (by omega)) hn
      have hji0 : ((j0 : Nat) : Int) < ((n : Nat) : Int) := by omega
      obtain ⟨kb1, ko1, hK1, y1, hq1⟩ := HN5.out.kids 1 (by decide)
      obtain ⟨j1, hj1⟩ : ∃ j, kidN l k 1 = j := ⟨_, rfl⟩
      rw [hj1] at y1 hq1
      obtain ⟨A1, c1, e1, hA1, -⟩ := HV5.out.told j1 hq1
      have t1 := HV5.out.at e1
      obtain ⟨n1, hn1⟩ : ∃ q, (turnI l j1).length = q := ⟨_, rfl⟩
      rw [hn1] at t1
      have hs1 : n1 ≤ 1000 := by rw [← hn1]; exact Nat.le_trans (HTL.out j1 (by omega)) hn
      have hji1 : ((j1 : Nat) : Int) < ((n : Nat) : Int) := by omega
      rw [Nat.add_zero] at y0
      subst hK0
      obtain ⟨rfl, rfl⟩ : kb0 = kb1 ∧ ko0 = ko1 := by
       injection hK1 with h
       injection h with h1 h2 _
       exact ⟨h1, h2⟩
      clear hK1
      have hOV := overM _ nm lo hi2 ks _ 2 cK A0 A1 n0 n1 c0 c1 (turnI l j0) (turnI l j1) (fun b => b ≠ B) W5 hlen hn0 hn1 (by omega) (by omega) ⟨HSM.out, HN5.out.ok.2⟩ hA0 (hA1.mono fun _ _ _ => trivial) (Tree.movable_may (HML.out j1 (by omega)) (by omega))
      have hT := turnI_two HL.out.2.1 HN5.out.hk (har.symm)
      rw [if_neg (by exact HKD.out), hj0, hj1, HRE.out] at hT
      rw [← hT] at hOV
      have HOV := Lib.hid hOV
      clear hOV hT hlen har hk2 hA0 e0 hn0 hs0 hj0 hq0 hA1 e1 hn1 hs1 hj1 hq1
      go_upto_region 20 with fail
      rw [HW5.out]
      obtain ⟨z0, z1, z2, z3, z4⟩ := HZ.out
      clear x0 x1 x2 x3 x4
      go_wp2_with fail
      refine HOV.out.mono ?_
      intro e w6 hG
      obtain ⟨A6, c6, rfl, hN6, hc6, hb6⟩ := got_off hG HBs.out
      have hV6 := HV5.out.below hb6
      obtain ⟨u6, hu6⟩ : ∃ u, σ[k]? = some u := ⟨_, List.getElem?_eq_getElem (by have := hV6.row.1; omega)⟩
      have c6k := hV6.at hu6
      have f6k := own_fz hV6.row k
      have HV7 := Lib.hid (hV6.put hlt hN6 hc6)
      have HB7 := Lib.hid ((HB5.out.trans (hb6.mono HB5.out.size)).setCell (p := ⟨B, k, none⟩) (show w.heap.size ≤ B by rw [HBe.out]; exact Nat.le_refl _) (.slice A6 (turnI l k).length c6))
      obtain ⟨n6, hn6⟩ : ∃ q, (turnI l k).length = q := ⟨_, rfl⟩
      rw [hn6] at HV7 HB7 ⊢
      clear hG hN6 hc6 hb6 hV6 hu6 hn6
      go_wp2_with fail
      go_roundw
      case rel => exact ⟨k + 1, _, by simp, by omega, HV7.out, HB7.out⟩
      case measure => (show n - (k + 1) < n - k; omega)
  ·obtain rfl : k = n := by omega
   obtain ⟨A9, c9, e9, hA9, hc9⟩ := hV.told (k - 1) (by omega)
   have t9 := hV.at e9
   have HX := Lib.hid (And.intro (hA9.mono (S' := Tree.Any) fun _ _ _ => trivial) hc9)
   have hk1 : ((k : Nat) : Int) - 1 = ((k - 1 : Nat) : Int) := by omega
   clear hV hBw hA9 hc9 e9
   go_wp2_with fail
   go_ret
   exact ⟨A9, c9, rfl, HX.out.1, HX.out.2.1, HX.out.2.2, HW.out⟩
end Go.Proofs.Ytdbgaccnejffpaa.Sat

namespace Go.Proofs.Ytdbgaccnejffpaa.Sat
open Go.RowKit Go.Proofs.Ytdbgaccnejffpaa.Ints Go.Proofs.Ytdbgaccnejffpaa.Mem Go.Proofs.Ytdbgaccnejffpaa.Src Go.Proofs.Ytdbgaccnejffpaa.Paths Go.Proofs.Ytdbgaccnejffpaa.Late
def swK (n k : Nat) (f : Nat → Bool) (j : Nat) : Bool := if j < k ∨ n ≤ j + k then f (n - 1 - j) else f j
theorem bl_put {n i : Nat} {f g : Nat → Bool} {x : Bool} (hi : i < n) (hx : g i = x) (h : ∀ j, j < n → j ≠ i → g j = f j) : (bl n f).set i (.bool x) = bl n g := by
 apply List.ext_getElem?
 intro a
 rw [List.getElem?_set, bl_len]
 by_cases ha : a < n
 ·rw [bl_at ha]
  by_cases e : i = a
  ·subst e
   rw [if_pos rfl, if_pos ha, bl_at ha, hx]
  ·rw [if_neg e, bl_at ha, h a ha (fun x => e x.symm)]
 ·rw [List.getElem?_eq_none (l := bl n g) (by rw [bl_len]; omega)]
  by_cases e : i = a
  ·rw [if_pos e, if_neg (by omega)]
  ·rw [if_neg e, List.getElem?_eq_none (by rw [bl_len]; omega)]
set_option maxHeartbeats 4000000 in
set_option maxRecDepth 100000 in
theorem revBools (lo b n : Nat) (f : Nat → Bool) (w : World) (hn : n ≤ 1000000) (h : OB w lo b n f) :
  Calls Try.prog 12 #[.slice (some ⟨b, 0, none⟩) n n] w fun e w' => e = .returned (.tuple #[]) ∧ OB w' lo b n (fun j => f (n - 1 - j)) ∧ Below lo w w' := by
 have H := Lib.hid h
 have hni : ((n : Nat) : Int) ≤ 1000000 := by omega
 clear h
 go_enter Try.func12, Try.ntmps12
 go_wp2_with fail
 go_loopw [2, 3] (fun u v wr => ∃ (k : Nat) (z : Int), u = .int .i64 ((k : Nat) : Int) ∧ v = .int .i64 z ∧ z = (n : Int) - 1 - (k : Int) ∧ 2 * k ≤ n ∧ OB wr lo b n (swK n k f) ∧ Below lo w wr) (fun u _ _ => n - (intOf u).toNat)
 case atStart =>
  refine ⟨0, _, rfl, rfl, by simp, by omega, H.out.congr fun j hj => ?_, Below.refl _ _⟩
  unfold swK
  rw [if_neg (by omega)]
 case round =>
  obtain ⟨k, z, rfl, rfl, hz, hk, hO, hB⟩ := hrel
  have HO := Lib.hid hO
  have HB := Lib.hid hB
  by_cases hlt : (k : Int) < z
  ·obtain ⟨m, hm⟩ : ∃ m : Nat, n - 1 - k = m := ⟨_, rfl⟩
   have hzm : z = (m : Int) := by omega
   subst hzm
   have c1 := hO.rb k (by omega)
   have c2 := hO.rb m (by omega)
   have f1 := own_fz hO k
   have f2 := own_fz hO m
   have e1 : swK n k f k = f k := by unfold swK; rw [if_neg (by omega)]
   have e2 : swK n k f m = f m := by unfold swK; rw [if_neg (by omega)]
   rw [e1] at c1
   rw [e2] at c2
   have h1 := own_put (k := k) hO (.bool (f m))
   have h2 := own_put (k := m) h1 (.bool (f k))
   have HN := Lib.hid (show OB ((wr.setCell ⟨b, k, none⟩ (.bool (f m))).setCell ⟨b, m, none⟩ (.bool (f k))) lo b n (swK n (k + 1) f) from by
    unfold OB
    rw [bl_put (g := fun j => if j = k then f m else swK n k f j) (by omega) (if_pos rfl) (fun j _ hne => if_neg hne)] at h2
    rw [bl_put (g := swK n (k + 1) f) (x := f k) (by omega)] at h2
    ·exact h2
    ·unfold swK
     rw [if_pos (by omega), show n - 1 - m = k by omega]
    ·intro j hj hne
     show _ = if j = k then f m else swK n k f j
     by_cases e : j = k
     ·rw [if_pos e, e]
      unfold swK
      rw [if_pos (by omega), hm]
     ·rw [if_neg e]
      unfold swK
      by_cases e3 : j < k ∨ n ≤ j + k
      ·rw [if_pos e3, if_pos (by omega)]
      ·rw [if_neg e3, if_neg (by omega)])
   have HBN := Lib.hid ((hB.setCell (p := ⟨b, k, none⟩) hO.lt.1 (.bool (f m))).setCell (p := ⟨b, m, none⟩) hO.lt.1 (.bool (f k)))
   have hkn : ((k : Nat) : Int) < (n : Int) := by omega
   have hmn : ((m : Nat) : Int) < (n : Int) := by omega
   have HKM := Lib.hid (And.intro hk hm)
   clear hO hB h1 h2 e1 e2 hz hm
   go_wp2_with fail
   go_region
   all_goals
    go_wp2_with fail
    go_roundw
    case rel => exact ⟨k + 1, _, by simp, rfl, by have := HKM.out; omega, by have := HKM.out; omega, HN.out.below (Below.refl _ _).drew, HBN.out.drew⟩
    case measure => (show n - (k + 1) < n - k; omega)
  ·have HN := Lib.hid (hO.congr (g := fun j => f (n - 1 - j)) fun j hj => by
    unfold swK
    by_cases e : j < k ∨ n ≤ j + k
    ·rw [if_pos e]
    ·rw [if_neg e, show n - 1 - j = j by omega])
   clear hO hB
   go_wp2_with fail
   go_end0
   exact ⟨rfl, HN.out, HB.out⟩
end Go.Proofs.Ytdbgaccnejffpaa.Sat

namespace Go.Proofs.Ytdbgaccnejffpaa.Sat
open Go.RowKit Go.Proofs.Ytdbgaccnejffpaa.Ints Go.Proofs.Ytdbgaccnejffpaa.Mem Go.Proofs.Ytdbgaccnejffpaa.Src Go.Proofs.Ytdbgaccnejffpaa.Paths
theorem keep4 {V V' : World} {p q r s : Addr} {a b c d : Value} (hb : Below V.heap.size V V') (h : (V.cell? ⟨p.block, p.off, none⟩ = some a ∧ V.cell? ⟨q.block, q.off, none⟩ = some b) ∧ V.cell? ⟨r.block, r.off, none⟩ = some c ∧ V.cell? ⟨s.block, s.off, none⟩ = some d) :
  (V'.cell? ⟨p.block, p.off, none⟩ = some a ∧ V'.cell? ⟨q.block, q.off, none⟩ = some b) ∧ V'.cell? ⟨r.block, r.off, none⟩ = some c ∧ V'.cell? ⟨s.block, s.off, none⟩ = some d :=
 ⟨⟨below_cell hb h.1.1, below_cell hb h.1.2⟩, below_cell hb h.2.1, below_cell hb h.2.2⟩
end Go.Proofs.Ytdbgaccnejffpaa.Sat
