/-
  The walk of the landed pool's add (stage 13). By an AI agent.
  Records of a right log, one by one, read whole and up to a fault, as plain lists (for P12.1, P12.2). By an AI agent.
  Records that are read one by one, as plain lists: where each stands, and what stands behind the last one (for P12.3). By an AI agent.
-/
import Derived.Test.YtimbbfneaaglbaaGreatGHeadsPlays39
import Derived.Test.YtimbbfneaaglbaaGreatGHeadsPlays37
import Derived.Test.YtimbbfneaaglbaaGreatGHeadsPlays34
import Derived.Test.YtimbbfneaaglbaaGreatGHeadsPlays27
namespace Go.Proofs.YtimbbfneaaglbaaGreat.Heads
open Go.RowKit Go.Proofs.YtimbbfneaaglbaaGreat.Ints Go.Proofs.YtimbbfneaaglbaaGreat.Mem Go.Proofs.YtimbbfneaaglbaaGreat.Src Go.Proofs.YtimbbfneaaglbaaGreat.Scan

theorem rowHd_ins (l : List Hd) (p : Nat) (y : Hd) : (rowHd l).take (5 * p) ++ cellsHd y ++ (rowHd l).drop (5 * p) = rowHd (l.take p ++ y :: l.drop p) := by
  have e : rowHd l = rowHd (l.take p) ++ rowHd (l.drop p) := by rw [← rowHd_append, List.take_append_drop]
  by_cases hp : p ≤ l.length
  · have hl : (rowHd (l.take p)).length = 5 * p := by rw [rowHd_len, List.length_take, Nat.min_eq_left hp, Nat.mul_comm]
    rw [e, List.take_left' hl, List.drop_left' hl, rowHd_append, rowHd_cons, List.append_assoc]
  · have h1 : l.take p = l := List.take_of_length_le (by omega)
    have h2 : l.drop p = [] := List.drop_of_length_le (by omega)
    have h3 := rowHd_len l
    rw [h1, h2, List.take_of_length_le (by omega), List.drop_of_length_le (by omega), rowHd_append, rowHd_cons]
    simp [rowHd]
/-- What the landed add leaves. -/
def GotAdd (g n c cl pk : Nat) (A : Option Addr) (size : Int) (u0 u1 u2 : Value) (l : List Hd) (x : Hd) (w : World) (e : Ending) (w' : World) : Prop :=
  (size ≤ (n : Int) ∧ e = .returned (.tuple #[.int .i64 0, .int .i64 12]) ∧ Below w.heap.size w w') ∨
      (¬ size ≤ (n : Int) ∧ ∃ p v', e = .returned (.tuple #[.int .i64 (p : Nat), .int .i64 0]) ∧ p ≤ n ∧ (∀ (j : Nat) (h : Hd), j < p → l[j]? = some h → h.id ≤ (j : Int)) ∧ (∀ (j : Nat) (h : Hd), p ≤ j → l[j]? = some h → (j : Int) < h.id) ∧
        Blk w' g [u0, u1, u2, .int .i64 size, v', .int .i64 ((cl : Int) + (3 + x.ids)), .int .i64 (max (pk : Int) ((cl : Int) + (3 + x.ids)))] ∧
        w'.ownsRow (g + 1) 78 5 v' (n + 1) (rowHd (l.take p ++ ⟨(p : Nat), x.at_, x.ix, x.tm, x.ids⟩ :: l.drop p)) ∧ Left (fun k => k = g ∨ (Value.slice A n c).ownBlock = some k) w w' ∧ (∀ q, v'.ownBlock = some q → (Value.slice A n c).ownBlock = some q ∨ w.heap.size ≤ q))
set_option maxHeartbeats 8000000 in
set_option maxRecDepth 100000 in
theorem addC (g n c cl pk : Nat) (A : Option Addr) (size : Int) (u0 u1 u2 : Value) (l : List Hd) (x : Hd) (w : World) (hb : Blk w g [u0, u1, u2, .int .i64 size, .slice A n c, .int .i64 (cl : Nat), .int .i64 (pk : Nat)]) (hr : w.ownsRow (g + 1) 78 5 (.slice A n c) n (rowHd l)) (hl : l.length = n) (hn : n ≤ 900000) (hnc : n ≤ c)
    (hm : ∀ (m j : Nat) (x y : Hd), m ≤ j → l[m]? = some x → l[j]? = some y → (m : Int) < x.id → (j : Int) < y.id) (hx : 0 ≤ x.ids ∧ x.ids ≤ 1000000) (hd : (cl : Int) + (3 + x.ids) ≤ 1000000000) :
    Calls Tryz.prog 36 #[.pointer (some ⟨g, 0, none⟩), .agg #[.int .i64 x.id, .int .i64 x.at_, .int .i64 x.ix, .int .u64 x.tm, .int .i64 x.ids]] w (GotAdd g n c cl pk A size u0 u1 u2 l x w) := by
  have hgl := hb.1
  have hvlt := hr.lt
  obtain ⟨T, hT⟩ : ∃ T, (w.alloc (.cells #[.int .i64 x.id, .int .i64 x.at_, .int .i64 x.ix, .int .u64 x.tm, .int .i64 x.ids] 78)).drew = T := ⟨_, rfl⟩
  have hal : Below w.heap.size w T := by rw [← hT]; exact ((Below.refl _ w).alloc (Nat.le_refl _) _).drew
  have HB := Lib.hid (hb.later hal)
  have hbx : Blk T w.heap.size [.int .i64 x.id, .int .i64 x.at_, .int .i64 x.ix, .int .u64 x.tm, .int .i64 x.ids] := by rw [← hT]; exact (Blk.new w _ _ _ rfl).drew
  have HX := Lib.hid hbx
  have HR := Lib.hid (below_row hr hal)
  have HBL := Lib.hid hal
  have HCX := Lib.hid (fun (p : Nat) W => cellsC ⟨(p : Nat), x.at_, x.ix, x.tm, x.ids⟩ W hx)
  have HD := Lib.hid (show 0 ≤ (cl : Int) + (3 + x.ids) ∧ (cl : Int) + (3 + x.ids) ≤ 1000000000 by omega)
  have HV := Lib.hid hvlt
  have hzT : w.heap.size < T.heap.size := hbx.1
  have h0 : T.cell? ⟨g, 3, none⟩ = some (.int .i64 size) ∧ T.cell? ⟨g, 4, none⟩ = some (.slice A n c) := ⟨HB.out.cell 3 rfl, HB.out.cell 4 rfl⟩
  clear hb hr hal hbx hvlt
  go_enter Tryz.func36, Tryz.ntmps36
  go_wp2_with fail
  refine wp_region_held_drew (S := fun W => W.cell? ⟨g, 3, none⟩ = some (.int .i64 size) ∧ W.cell? ⟨g, 4, none⟩ = some (.slice A n c)) (by kernel_rfl) (by rw [hT]; exact h0) (fun hHeld => ?_)
  rw [hT] at hHeld ⊢
  clear hT h0
  refine wpAnyH_take (i := 0) (oi := ?tko1) (v := ?tkv1) ?tkh1 (by kernel_rfl) (by kernel_rfl) (by kernel_rfl) ?tkq1 ?tky1 hHeld ?tkr1
  case tkh1 => (simp only [List.getElem?_toArray, List.getElem?_cons_zero]; rfl)
  case tkq1 => exact fun _ _ _ h => h
  case tky1 => exact Or.inl ⟨by rfl, by intro wSw hSw; (try dsimp only at hSw); go_simp; try with_reducible rfl⟩
  try simp only [Act.put, List.setIfInBounds_toArray, List.set_cons_zero, List.set_cons_succ]
  refine wpAnyH_take (i := 1) (oi := ?tko2) (v := ?tkv2) ?tkh2 (by kernel_rfl) (by kernel_rfl) (by kernel_rfl) ?tkq2 ?tky2 hHeld ?tkr2
  case tkh2 => (simp only [List.getElem?_toArray, List.getElem?_cons_succ, List.getElem?_cons_zero]; rfl)
  case tkq2 => exact fun _ _ _ h => h
  case tky2 => exact Or.inl ⟨by rfl, by intro wSw hSw; (try dsimp only at hSw); go_simp; try with_reducible rfl⟩
  try simp only [Act.put, List.setIfInBounds_toArray, List.set_cons_zero, List.set_cons_succ]
  refine wpAnyH_take (i := 2) (oi := ?tko3) (v := ?tkv3) ?tkh3 (by kernel_rfl) (by kernel_rfl) (by kernel_rfl) ?tkq3 ?tky3 hHeld ?tkr3
  case tkh3 => (simp only [List.getElem?_toArray, List.getElem?_cons_succ, List.getElem?_cons_zero]; rfl)
  case tkq3 => exact fun _ _ _ h => h
  case tky3 => exact Or.inl ⟨by rfl, by intro wSw hSw; (try dsimp only at hSw); go_simp; try with_reducible rfl⟩
  try simp only [Act.put, List.setIfInBounds_toArray, List.set_cons_zero, List.set_cons_succ]
  refine wpAnyH_take (i := 3) (oi := ?tko4) (v := ?tkv4) ?tkh4 (by kernel_rfl) (by kernel_rfl) (by kernel_rfl) ?tkq4 ?tky4 hHeld ?tkr4
  case tkh4 => (simp only [List.getElem?_toArray, List.getElem?_cons_succ, List.getElem?_cons_zero]; rfl)
  case tkq4 => exact fun _ _ _ h => h
  case tky4 => exact Or.inl ⟨by rfl, by intro wSw hSw; (try dsimp only at hSw); go_simp; try with_reducible rfl⟩
  try simp only [Act.put, List.setIfInBounds_toArray, List.set_cons_zero, List.set_cons_succ]
  refine wpAnyH_take (i := 4) (oi := ?tko5) (v := ?tkv5) ?tkh5 (by kernel_rfl) (by kernel_rfl) (by kernel_rfl) ?tkq5 ?tky5 hHeld ?tkr5
  case tkh5 => (simp only [List.getElem?_toArray, List.getElem?_cons_succ, List.getElem?_cons_zero]; rfl)
  case tkq5 => exact fun _ _ _ h => h
  case tky5 => exact Or.inl ⟨by rfl, by intro wSw hSw; (try dsimp only at hSw); go_simp; try with_reducible rfl⟩
  try simp only [Act.put, List.setIfInBounds_toArray, List.set_cons_zero, List.set_cons_succ]
  refine wpAnyH_take (i := 5) (oi := ?tko6) (v := ?tkv6) ?tkh6 (by kernel_rfl) (by kernel_rfl) (by kernel_rfl) ?tkq6 ?tky6 hHeld ?tkr6
  case tkh6 => (simp only [List.getElem?_toArray, List.getElem?_cons_succ, List.getElem?_cons_zero]; rfl)
  case tkq6 => exact fun _ _ _ h => h
  case tky6 => exact Or.inl ⟨by rfl, by intro wSw hSw; (try dsimp only at hSw); go_simp; try with_reducible rfl⟩
  try simp only [Act.put, List.setIfInBounds_toArray, List.set_cons_zero, List.set_cons_succ]
  refine wpAnyH_take (i := 6) (oi := ?tko7) (v := ?tkv7) ?tkh7 (by kernel_rfl) (by kernel_rfl) (by kernel_rfl) ?tkq7 ?tky7 hHeld ?tkr7
  case tkh7 => (simp only [List.getElem?_toArray, List.getElem?_cons_succ, List.getElem?_cons_zero]; rfl)
  case tkq7 => exact fun _ _ _ h => h
  case tky7 => exact Or.inl ⟨by rfl, by intro wSw hSw; (try dsimp only at hSw); go_simp; try with_reducible rfl⟩
  try simp only [Act.put, List.setIfInBounds_toArray, List.set_cons_zero, List.set_cons_succ]
  refine wpAnyH_take (i := 7) (oi := ?tko8) (v := ?tkv8) ?tkh8 (by kernel_rfl) (by kernel_rfl) (by kernel_rfl) ?tkq8 ?tky8 hHeld ?tkr8
  case tkh8 => (simp only [List.getElem?_toArray, List.getElem?_cons_succ, List.getElem?_cons_zero]; rfl)
  case tkq8 => exact fun _ _ _ h => h
  case tky8 => exact Or.inl ⟨by rfl, by intro wSw hSw; (try dsimp only at hSw); go_simp; try with_reducible rfl⟩
  try simp only [Act.put, List.setIfInBounds_toArray, List.set_cons_zero, List.set_cons_succ]
  refine wpAnyH_take (i := 8) (oi := ?tko9) (v := ?tkv9) ?tkh9 (by kernel_rfl) (by kernel_rfl) (by kernel_rfl) ?tkq9 ?tky9 hHeld ?tkr9
  case tkh9 => (simp only [List.getElem?_toArray, List.getElem?_cons_succ, List.getElem?_cons_zero]; rfl)
  case tkq9 => exact fun _ _ _ h => h
  case tky9 => exact Or.inl ⟨by rfl, by intro wSw hSw; (try dsimp only at hSw); go_simp; try with_reducible rfl⟩
  try simp only [Act.put, List.setIfInBounds_toArray, List.set_cons_zero, List.set_cons_succ]
  refine wpAnyH_take (i := 9) (oi := ?tko10) (v := ?tkv10) ?tkh10 (by kernel_rfl) (by kernel_rfl) (by kernel_rfl) ?tkq10 ?tky10 hHeld ?tkr10
  case tkh10 => (simp only [List.getElem?_toArray, List.getElem?_cons_succ, List.getElem?_cons_zero]; rfl)
  case tkq10 => exact fun _ _ _ h => h
  case tky10 => exact Or.inl ⟨by rfl, by intro wSw hSw; (try dsimp only at hSw); go_simp; try with_reducible rfl⟩
  try simp only [Act.put, List.setIfInBounds_toArray, List.set_cons_zero, List.set_cons_succ]
  refine wpAnyH_done (by kernel_rfl) ?_ _
  clear hHeld
  by_cases hfull : size ≤ (n : Int)
  · go_wp2_with fail
    refine bodyPost_ret (v := .tuple #[.int .i64 0, .int .i64 12]) (by simp [results, Tryz.results36, go_sem]) rfl ?_
    exact .inl ⟨by omega, rfl, HBL.out⟩
  have HFR := Lib.hid (freeP_land g A n c l u0 u1 u2 (.int .i64 size) (.int .i64 (cl : Nat)) (.int .i64 (pk : Nat)) T HB.out hl (by omega) hnc (RdH.own HR.out hl) hm)
  have HFULL := Lib.hid hfull
  have c1 := HX.out.cell 1 rfl
  go_wp2_with (go_at_call 69; refine HFR.out.mono ?_; rintro e w1 ⟨p, rfl, hp1, hp2, hp3, hB1⟩; have k0 := (HX.out.later hB1).cell 0 rfl; have k1 := (HX.out.later hB1).fz 0 rfl)
  have hne1 : g ≠ w.heap.size := by omega
  have hne2 : ∀ q, (Value.slice A n c).ownBlock = some q → q ≠ w.heap.size := fun q hq => by have := HV.out q hq; omega
  have HB1 := Lib.hid ((HB.out.later hB1).other ⟨w.heap.size, 0, none⟩ (.int .i64 (p : Nat)) hne1)
  have HX1 := Lib.hid (show Blk (w1.setCell ⟨w.heap.size, 0, none⟩ (.int .i64 (p : Nat))) w.heap.size [.int .i64 (p : Nat), .int .i64 x.at_, .int .i64 x.ix, .int .u64 x.tm, .int .i64 x.ids] from (HX.out.later hB1).set 0 (.int .i64 (p : Nat)) (by simp))
  have HR1 := Lib.hid (show (w1.setCell ⟨w.heap.size, 0, none⟩ (.int .i64 (p : Nat))).ownsRow (g + 1) 78 5 (.slice A n c) n (rowHd l) from (below_row HR.out hB1).kept (grown_cell w1 ⟨w.heap.size, 0, none⟩ (.int .i64 (p : Nat))) (by
    by_cases hv : (Value.slice A n c).ownBlock = none
    · exact .inl hv
    · exact .inr (fun e => hne2 _ e rfl)))
  have HBL1 := Lib.hid (show Below w.heap.size w (w1.setCell ⟨w.heap.size, 0, none⟩ (.int .i64 (p : Nat))) from (HBL.out.trans (hB1.mono (Nat.le_of_lt hzT))).setCell (Nat.le_refl _) _)
  have HP := Lib.hid (And.intro hp1 (And.intro hp2 hp3))
  have hsz1 : w.heap.size ≤ (w1.setCell ⟨w.heap.size, 0, none⟩ (.int .i64 (p : Nat))).heap.size := HBL1.out.size
  clear HB HX HR HFR HBL hB1 hp1 hp2 hp3 k0 k1 c1 hzT
  generalize w1.setCell ⟨w.heap.size, 0, none⟩ (.int .i64 (p : Nat)) = W1 at HB1 HX1 HR1 HBL1 hsz1 ⊢
  have HSW := Lib.hid (show ∀ (W : World) (v5 v6 : Value), Blk W g [u0, u1, u2, .int .i64 size, .slice A n c, v5, v6] → Blk W w.heap.size [.int .i64 (p : Nat), .int .i64 x.at_, .int .i64 x.ix, .int .u64 x.tm, .int .i64 x.ids] → W.cell? ⟨w.heap.size, 0, none⟩ = some (.int .i64 (p : Nat)) ∧ W.cell? ⟨w.heap.size, 1, none⟩ = some (.int .i64 x.at_) ∧ W.cell? ⟨w.heap.size, 2, none⟩ = some (.int .i64 x.ix) ∧ W.cell? ⟨w.heap.size, 3, none⟩ = some (.int .u64 x.tm) ∧ W.cell? ⟨w.heap.size, 4, none⟩ = some (.int .i64 x.ids) ∧ W.cell? ⟨g, 4, none⟩ = some (.slice A n c) from
    fun W v5 v6 h1 h2 => ⟨h2.cell 0 rfl, h2.cell 1 rfl, h2.cell 2 rfl, h2.cell 3 rfl, h2.cell 4 rfl, h1.cell 4 rfl⟩)
  obtain ⟨V, hV⟩ : ∃ V, W1.drew = V := ⟨_, rfl⟩
  have HBV := Lib.hid (show Blk V g [u0, u1, u2, .int .i64 size, .slice A n c, .int .i64 (cl : Nat), .int .i64 (pk : Nat)] by rw [← hV]; exact HB1.out.drew)
  have HXV := Lib.hid (show Blk V w.heap.size [.int .i64 (p : Nat), .int .i64 x.at_, .int .i64 x.ix, .int .u64 x.tm, .int .i64 x.ids] by rw [← hV]; exact HX1.out.drew)
  have HRV := Lib.hid (show V.ownsRow (g + 1) 78 5 (.slice A n c) n (rowHd l) by rw [← hV]; exact below_row HR1.out (Below.refl _ _).drew)
  have HBLV := Lib.hid (show Below w.heap.size w V by rw [← hV]; exact HBL1.out.drew)
  have hszV := HBLV.out.size
  refine Late.drew [12] (S := fun W => W.cell? ⟨w.heap.size, 0, none⟩ = some (.int .i64 (p : Nat)) ∧ W.cell? ⟨w.heap.size, 1, none⟩ = some (.int .i64 x.at_) ∧ W.cell? ⟨w.heap.size, 2, none⟩ = some (.int .i64 x.ix) ∧ W.cell? ⟨w.heap.size, 3, none⟩ = some (.int .u64 x.tm) ∧ W.cell? ⟨w.heap.size, 4, none⟩ = some (.int .i64 x.ids) ∧ W.cell? ⟨g, 4, none⟩ = some (.slice A n c)) (by kernel_rfl) (by rw [hV]; exact HSW.out V _ _ HBV.out HXV.out) (fun hHeld => ?_)
  rw [hV] at hHeld ⊢
  clear hV HB1 HX1 HR1 HBL1 hsz1
  refine Late.take (i := 0) (oi := ?tko11) (v := ?tkv11) ?tkh11 (by kernel_rfl) (by kernel_rfl) (by kernel_rfl) (by kernel_rfl) ?tkq11 ?tky11 hHeld ?tkr11
  case tkh11 => (simp only [List.getElem?_toArray, List.getElem?_cons_zero]; rfl)
  case tkq11 => exact fun _ _ _ h => h
  case tky11 => exact Or.inl ⟨by rfl, by intro wSw hSw; (try dsimp only at hSw); go_simp; try with_reducible rfl⟩
  try simp only [Act.put, List.setIfInBounds_toArray, List.set_cons_zero, List.set_cons_succ]
  refine Late.take (i := 1) (oi := ?tko12) (v := ?tkv12) ?tkh12 (by kernel_rfl) (by kernel_rfl) (by kernel_rfl) (by kernel_rfl) ?tkq12 ?tky12 hHeld ?tkr12
  case tkh12 => (simp only [List.getElem?_toArray, List.getElem?_cons_succ, List.getElem?_cons_zero]; rfl)
  case tkq12 => exact fun _ _ _ h => h
  case tky12 => exact Or.inl ⟨by rfl, by intro wSw hSw; (try dsimp only at hSw); go_simp; try with_reducible rfl⟩
  try simp only [Act.put, List.setIfInBounds_toArray, List.set_cons_zero, List.set_cons_succ]
  refine Late.take (i := 2) (oi := ?tko13) (v := ?tkv13) ?tkh13 (by kernel_rfl) (by kernel_rfl) (by kernel_rfl) (by kernel_rfl) ?tkq13 ?tky13 hHeld ?tkr13
  case tkh13 => (simp only [List.getElem?_toArray, List.getElem?_cons_succ, List.getElem?_cons_zero]; rfl)
  case tkq13 => exact fun _ _ _ h => h
  case tky13 => exact Or.inl ⟨by rfl, by intro wSw hSw; (try dsimp only at hSw); go_simp; try with_reducible rfl⟩
  try simp only [Act.put, List.setIfInBounds_toArray, List.set_cons_zero, List.set_cons_succ]
  refine Late.take (i := 3) (oi := ?tko14) (v := ?tkv14) ?tkh14 (by kernel_rfl) (by kernel_rfl) (by kernel_rfl) (by kernel_rfl) ?tkq14 ?tky14 hHeld ?tkr14
  case tkh14 => (simp only [List.getElem?_toArray, List.getElem?_cons_succ, List.getElem?_cons_zero]; rfl)
  case tkq14 => exact fun _ _ _ h => h
  case tky14 => exact Or.inl ⟨by rfl, by intro wSw hSw; (try dsimp only at hSw); go_simp; try with_reducible rfl⟩
  try simp only [Act.put, List.setIfInBounds_toArray, List.set_cons_zero, List.set_cons_succ]
  refine Late.take (i := 4) (oi := ?tko15) (v := ?tkv15) ?tkh15 (by kernel_rfl) (by kernel_rfl) (by kernel_rfl) (by kernel_rfl) ?tkq15 ?tky15 hHeld ?tkr15
  case tkh15 => (simp only [List.getElem?_toArray, List.getElem?_cons_succ, List.getElem?_cons_zero]; rfl)
  case tkq15 => exact fun _ _ _ h => h
  case tky15 => exact Or.inl ⟨by rfl, by intro wSw hSw; (try dsimp only at hSw); go_simp; try with_reducible rfl⟩
  try simp only [Act.put, List.setIfInBounds_toArray, List.set_cons_zero, List.set_cons_succ]
  refine Late.take (i := 5) (oi := ?tko16) (v := ?tkv16) ?tkh16 (by kernel_rfl) (by kernel_rfl) (by kernel_rfl) (by kernel_rfl) ?tkq16 ?tky16 hHeld ?tkr16
  case tkh16 => (simp only [List.getElem?_toArray, List.getElem?_cons_succ, List.getElem?_cons_zero]; rfl)
  case tkq16 => exact fun _ _ _ h => h
  case tky16 => exact Or.inl ⟨by rfl, by intro wSw hSw; (try dsimp only at hSw); go_simp; try with_reducible rfl⟩
  try simp only [Act.put, List.setIfInBounds_toArray, List.set_cons_zero, List.set_cons_succ]
  refine Late.take (i := 6) (oi := ?tko17) (v := ?tkv17) ?tkh17 (by kernel_rfl) (by kernel_rfl) (by kernel_rfl) (by kernel_rfl) ?tkq17 ?tky17 hHeld ?tkr17
  case tkh17 => (simp only [List.getElem?_toArray, List.getElem?_cons_succ, List.getElem?_cons_zero]; rfl)
  case tkq17 => exact fun _ _ _ h => h
  case tky17 => exact Or.inl ⟨by rfl, by intro wSw hSw; (try dsimp only at hSw); go_simp; try with_reducible rfl⟩
  try simp only [Act.put, List.setIfInBounds_toArray, List.set_cons_zero, List.set_cons_succ]
  refine Late.take (i := 7) (oi := ?tko18) (v := ?tkv18) ?tkh18 (by kernel_rfl) (by kernel_rfl) (by kernel_rfl) (by kernel_rfl) ?tkq18 ?tky18 hHeld ?tkr18
  case tkh18 => (simp only [List.getElem?_toArray, List.getElem?_cons_succ, List.getElem?_cons_zero]; rfl)
  case tkq18 => exact fun _ _ _ h => h
  case tky18 => exact Or.inl ⟨by rfl, by intro wSw hSw; (try dsimp only at hSw); go_simp; try with_reducible rfl⟩
  try simp only [Act.put, List.setIfInBounds_toArray, List.set_cons_zero, List.set_cons_succ]
  have hsz2 : V.heap.size ≤ (V.alloc (.cells #[.int .i64 (p : Nat), .int .i64 x.at_, .int .i64 x.ix, .int .u64 x.tm, .int .i64 x.ids] 78)).heap.size := by simp
  have hal2 : Below V.heap.size V (V.alloc (.cells #[.int .i64 (p : Nat), .int .i64 x.at_, .int .i64 x.ix, .int .u64 x.tm, .int .i64 x.ids] 78)) := (Below.refl _ _).alloc (Nat.le_refl _) _
  refine Late.early (k := 8) (o := ?tko19) (by kernel_rfl) (by kernel_rfl) ?tkh19 (fun Kt19 hKt19 => ?_)
  case tkh19 => (simp only [List.getElem?_toArray, List.getElem?_cons_succ, List.getElem?_cons_zero]; rfl)
  go_simp
  refine hKt19.out _ _ ?_ (fun hHt19 => ?_)
  · (exact HSW.out _ _ _ (HBV.out.later hal2) (HXV.out.later hal2))
  clear hKt19 Kt19 hHeld
  have hHeld := hHt19
  clear hHt19
  try simp only [Act.put, List.setIfInBounds_toArray, List.set_cons_zero, List.set_cons_succ]
  have HINS := Lib.hid (insH (g + 1) n p V.heap.size (.slice A n c) (rowHd l) (cellsHd ⟨(p : Nat), x.at_, x.ix, x.tm, x.ids⟩) _ (below_row HRV.out hal2) HP.out.1 (by omega) rfl (cellsHd_one _) (rowHd_one _) (heap_alloc_new V (.cells #[.int .i64 (p : Nat), .int .i64 x.at_, .int .i64 x.ix, .int .u64 x.tm, .int .i64 x.ids] 78)) (fun e => by have := HV.out _ e; omega) (by omega))
  unfold GotIns at HINS
  rw [rowHd_ins] at HINS
  refine Late.early (k := 9) (o := ?tko20) (by kernel_rfl) (by kernel_rfl) ?tkh20 (fun Kt20 hKt20 => ?_)
  case tkh20 => (simp only [List.getElem?_toArray, List.getElem?_cons_succ, List.getElem?_cons_zero]; rfl)
  go_simp
  (go_at_call 70; refine HINS.out.mono ?_; rintro e w3 ⟨v3, rfl, hr3, hg3, hv3⟩; obtain ⟨A3, c3, rfl, -, -, -, -⟩ := own_sliceN hr3)
  refine hKt20.out _ _ ?_ (fun hHt20 => ?_)
  · (exact HSW.out _ _ _ ((HBV.out.later hal2).grown hg3 (fun e => by have := HV.out _ e.symm; omega)) ((HXV.out.later hal2).grown hg3 (fun e => by have := HV.out _ e.symm; omega)))
  clear hKt20 Kt20 hHeld
  have hHeld := hHt20
  clear hHt20
  try simp only [Act.put, List.setIfInBounds_toArray, List.set_cons_zero, List.set_cons_succ]
  have HB3 := Lib.hid ((HBV.out.later hal2).grown hg3 (fun e => by have := HV.out _ e.symm; omega))
  have HX3 := Lib.hid ((HXV.out.later hal2).grown hg3 (fun e => by have := HV.out _ e.symm; omega))
  have HV3 := Lib.hid (show ∀ q, (Value.slice A3 (n + 1) c3).ownBlock = some q → (Value.slice A n c).ownBlock = some q ∨ w.heap.size ≤ q from fun q hq => by
    rcases hv3 with e | e
    · exact .inl (by rw [← e]; exact hq)
    · rw [e] at hq; injection hq with hq; exact .inr (by omega))
  have HR3 := Lib.hid hr3
  have HBL3 := Lib.hid (show Left (fun k => k = g ∨ (Value.slice A n c).ownBlock = some k) w w3 from ((Left.of_below HBLV.out).trans (Left.of_below (D := (fun k => k = g ∨ (Value.slice A n c).ownBlock = some k)) hal2) (fun _ e => .inl e)).trans (Left.of_grown (D := (fun k => k = g ∨ (Value.slice A n c).ownBlock = some k)) hg3 (fun q e => .inr e)) (fun _ e => .inl e))
  clear hr3 hg3 hv3 hal2 hsz2 HINS HBV HXV HRV HBLV hszV
  have b4 := HB3.out.cell 4 rfl
  have bf4 := HB3.out.fz 4 rfl
  refine Late.take (i := 10) (oi := ?tko21) (v := ?tkv21) ?tkh21 (by kernel_rfl) (by kernel_rfl) (by kernel_rfl) (by kernel_rfl) ?tkq21 ?tky21 hHeld ?tkr21
  case tkh21 => (simp only [List.getElem?_toArray, List.getElem?_cons_succ, List.getElem?_cons_zero]; rfl)
  case tkq21 => exact fun _ _ _ h => h
  case tky21 => exact Or.inl ⟨by rfl, by intro wSw hSw; (try dsimp only at hSw); go_simp; try with_reducible rfl⟩
  try simp only [Act.put, List.setIfInBounds_toArray, List.set_cons_zero, List.set_cons_succ]
  refine Late.take (i := 11) (oi := ?tko22) (v := ?tkv22) ?tkh22 (by kernel_rfl) (by kernel_rfl) (by kernel_rfl) (by kernel_rfl) ?tkq22 ?tky22 hHeld ?tkr22
  case tkh22 => (simp only [List.getElem?_toArray, List.getElem?_cons_succ, List.getElem?_cons_zero]; rfl)
  case tkq22 => exact fun _ _ _ h => h
  case tky22 => exact Or.inl ⟨by rfl, by intro wSw hSw; (try dsimp only at hSw); go_simp; try with_reducible rfl⟩
  try simp only [Act.put, List.setIfInBounds_toArray, List.set_cons_zero, List.set_cons_succ]
  refine Late.last (k := 12) (o := ?tko23) (by kernel_rfl) (by kernel_rfl) ?tkh23 (fun Kt23 hKt23 => ?_)
  case tkh23 => (simp only [List.getElem?_toArray, List.getElem?_cons_succ, List.getElem?_cons_zero]; rfl)
  go_simp
  refine hKt23.out _ _ trivial (fun hHt23 => ?_)
  clear hKt23 Kt23 hHeld
  have hHeld := hHt23
  clear hHt23
  try simp only [Act.put, List.setIfInBounds_toArray, List.set_cons_zero, List.set_cons_succ]
  refine wpAnyH_done (by kernel_rfl) ?_ _
  have HB4 := Lib.hid (show Blk (w3.setCell ⟨g, 4, none⟩ (.slice A3 (n + 1) c3)) g [u0, u1, u2, .int .i64 size, .slice A3 (n + 1) c3, .int .i64 (cl : Nat), .int .i64 (pk : Nat)] from HB3.out.set 4 (.slice A3 (n + 1) c3) (by simp))
  have HX4 := Lib.hid (HX3.out.other ⟨g, 4, none⟩ (.slice A3 (n + 1) c3) (fun e => hne1 e.symm))
  have HR4 := Lib.hid (show (w3.setCell ⟨g, 4, none⟩ (.slice A3 (n + 1) c3)).ownsRow (g + 1) 78 5 (.slice A3 (n + 1) c3) (n + 1) (rowHd (l.take p ++ ⟨(p : Nat), x.at_, x.ix, x.tm, x.ids⟩ :: l.drop p)) from row_apart HR3.out (grown_cell w3 ⟨g, 4, none⟩ (.slice A3 (n + 1) c3)) (Nat.lt_succ_self g))
  have HBL4 := Lib.hid (left_set HBL3.out ⟨g, 4, none⟩ (.slice A3 (n + 1) c3) (.inl (.inl rfl)))
  clear hHeld HB3 HX3 HR3 HBL3 b4 bf4
  generalize w3.setCell ⟨g, 4, none⟩ (.slice A3 (n + 1) c3) = W4 at HB4 HX4 HR4 HBL4 ⊢
  have y0 := HX4.out.cell 0 rfl
  have y1 := HX4.out.cell 1 rfl
  have y2 := HX4.out.cell 2 rfl
  have y3 := HX4.out.cell 3 rfl
  have y4 := HX4.out.cell 4 rfl
  go_wp2_with (first
    | (go_at_call 40; refine (HCX.out p _).mono ?_; rintro e W5 ⟨rfl, hB5⟩)
    | (go_at_call 39; refine (countC g cl pk (3 + x.ids) u0 u1 u2 (.int .i64 size) (.slice A3 (n + 1) c3) W5 (HB4.out.later hB5) HD.out).mono ?_; rintro e w6 ⟨rfl, hb6, hg6⟩; have z0 := ((HX4.out.later hB5).grown hg6 (fun e => hne1 (by injection e with e; exact e.symm))).cell 0 rfl))
  refine bodyPost_ret (v := .tuple #[.int .i64 (p : Nat), .int .i64 0]) (by simp [results, Tryz.results36, go_sem]) rfl ?_
  unfold GotAdd
  refine .inr ⟨by have := HFULL.out; omega, p, _, rfl, HP.out.1, HP.out.2.1, HP.out.2.2, hb6, row_apart (below_row HR4.out hB5) hg6 (Nat.lt_succ_self g), ?_, HV3.out⟩
  exact (HBL4.out.trans (Left.of_below (D := (fun k => k = g ∨ (Value.slice A n c).ownBlock = some k)) hB5) (fun _ e => .inl e)).trans (Left.of_grown (D := (fun k => k = g ∨ (Value.slice A n c).ownBlock = some k)) hg6 (fun q e => by injection e with e; exact .inl e.symm)) (fun _ e => .inl e)
end Go.Proofs.YtimbbfneaaglbaaGreat.Heads

namespace Go.Proofs.YtimbbfneaaglbaaGreat.Scan
open Go.Proofs.YtimbbfneaaglbaaGreat.Ints Go.Proofs.YtimbbfneaaglbaaGreat.SumMath Go.Proofs.YtimbbfneaaglbaaGreat.SumWalks Go.Proofs.YtimbbfneaaglbaaGreat.Trace Go.Proofs.YtimbbfneaaglbaaGreat.Record Go.Proofs.YtimbbfneaaglbaaGreat.Log

/-- Where the i-th record of a log stands. -/
def placeL (t : Tr) (i : Nat) : Nat := (headL t.names).length + ((t.events.take i).flatMap recR).length
theorem place_zero (t : Tr) : placeL t 0 = (headL t.names).length := by simp [placeL]
theorem rest_whole (b : List Int) (p : Nat) : restB b b.length (p : Int) = b.drop p := by
  unfold restB
  rw [List.take_of_length_le (Nat.le_refl _), Int.toNat_natCast]
  rcases Nat.le_total p b.length with h | h
  · rw [Nat.min_eq_left h]
  · rw [Nat.min_eq_right h, List.drop_of_length_le (Nat.le_refl _), List.drop_of_length_le h]
/-- The i-th record of a log. -/
theorem place_rec {t : Tr} (h : mayT t = true) (ht : ∀ e ∈ t.events, 0 ≤ e.time ∧ e.time ≤ 18446744073709551615) {i : Nat} (hi : i < t.events.length) :
    errR ((encL t).drop (placeL t i)) (propsR (t.names.length : Int)) = 0 ∧ evR ((encL t).drop (placeL t i)) = t.events.getD i noEv ∧ placeL t (i + 1) = placeL t i + (lenR ((encL t).drop (placeL t i)) + 6) ∧ placeL t i + 14 ≤ placeL t (i + 1) ∧ placeL t (i + 1) ≤ (encL t).length := by
  obtain ⟨h1, h2⟩ := (mayT_iff t).1 h
  have h64 := ((namesOk_iff _).1 h1).1
  have he : encL t = headL t.names ++ t.events.flatMap recR := by unfold encL; rw [if_pos h]
  have hsp : t.events = t.events.take i ++ t.events.getD i noEv :: t.events.drop (i + 1) := by
    have e : t.events.getD i noEv = t.events[i] := by simp [List.getD, hi]
    rw [e]
    simp
  obtain ⟨ev, hev⟩ : ∃ ev, t.events.getD i noEv = ev := ⟨_, rfl⟩
  have hmem : ev ∈ t.events := by rw [← hev]; simp [List.getD, hi]
  rw [hev] at hsp ⊢
  have hfl : t.events.flatMap recR = (t.events.take i).flatMap recR ++ (recR ev ++ (t.events.drop (i + 1)).flatMap recR) := by
    conv => lhs; rw [hsp]
    rw [List.flatMap_append, List.flatMap_cons]
  have hd : (encL t).drop (placeL t i) = recR ev ++ (t.events.drop (i + 1)).flatMap recR := by
    rw [he, hfl]
    unfold placeL
    rw [← List.append_assoc, ← List.length_append, List.drop_left]
  have hids := evs_ids h2 ev hmem
  obtain ⟨t0, t1⟩ := ht ev hmem
  obtain ⟨k1, k2, k3⟩ := rec_get (p := (t.names.length : Int)) ⟨by omega, by omega⟩ hids t0 t1 ((t.events.drop (i + 1)).flatMap recR)
  have htk : t.events.take (i + 1) = t.events.take i ++ [ev] := by
    rw [List.take_add_one, List.getElem?_eq_getElem hi]
    have e : t.events.getD i noEv = t.events[i] := by simp [List.getD, hi]
    rw [← hev, e]
    rfl
  have hpl : placeL t (i + 1) = placeL t i + (recR ev).length := by
    unfold placeL
    rw [htk, List.flatMap_append, List.length_append, List.flatMap_cons, List.flatMap_nil, List.append_nil]
    omega
  have hrl := rec_len ev
  rw [hd]
  refine ⟨k1, k2, ?_, ?_, ?_⟩
  · rw [hpl, k3]
    omega
  · omega
  · rw [hpl, he, hfl]
    unfold placeL
    simp only [List.length_append]
    omega
/-- The i-th record, read whole. -/
theorem scan_whole {t : Tr} (h : mayT t = true) (ht : ∀ e ∈ t.events, 0 ≤ e.time ∧ e.time ≤ 18446744073709551615) {i : Nat} (hi : i < t.events.length) :
    scanE (encL t) (encL t).length (placeL t i : Nat) (t.names.length : Int) = 0 ∧ scanV (encL t) (encL t).length (placeL t i : Nat) (t.names.length : Int) = t.events.getD i noEv ∧ scanN (encL t) (encL t).length (placeL t i : Nat) (t.names.length : Int) = placeL t (i + 1) := by
  obtain ⟨k1, k2, k3, k4, k5⟩ := place_rec h ht hi
  have hg := get_ok k1
  have hE : scanE (encL t) (encL t).length (placeL t i : Nat) (t.names.length : Int) = 0 := by
    unfold scanE
    rw [if_neg (by omega), if_neg (by omega), if_neg (fun e => absurd e.1 (Nat.lt_irrefl _)), rest_whole]
    exact k1
  refine ⟨hE, ?_, ?_⟩
  · unfold scanV
    rw [if_pos hE, rest_whole, hg.1, k2]
  · unfold scanN
    rw [if_pos hE, rest_whole, hg.2.1, Int.toNat_natCast, k3]
/-- The i-th record, read up to a fault. -/
theorem scan_cut {t : Tr} (h : mayT t = true) (ht : ∀ e ∈ t.events, 0 ≤ e.time ∧ e.time ≤ 18446744073709551615) {i k : Nat} (hi : i < t.events.length) (hk : k < (encL t).length) :
    (placeL t (i + 1) ≤ k → scanE (encL t) k (placeL t i : Nat) (t.names.length : Int) = 0 ∧ scanV (encL t) k (placeL t i : Nat) (t.names.length : Int) = t.events.getD i noEv) ∧
    (¬ placeL t (i + 1) ≤ k → scanE (encL t) k (placeL t i : Nat) (t.names.length : Int) = 10) := by
  obtain ⟨k1, k2, k3, k4, k5⟩ := place_rec h ht hi
  have h64 := ((namesOk_iff _).1 ((mayT_iff t).1 h).1).1
  have hg := get_ok k1
  obtain ⟨r1, r2⟩ := rec_cut (b := encL t) (fun z hz => enc_bytes t z hz) (p := placeL t i) (f := k) (props := (t.names.length : Int)) ⟨by omega, by omega⟩ k1 (by omega) (by omega)
  rw [← k3] at r1 r2
  refine ⟨fun hc => ?_, fun hc => ?_⟩
  · rw [if_pos hc] at r1
    have hE : scanE (encL t) k (placeL t i : Nat) (t.names.length : Int) = 0 := by
      unfold scanE
      rw [if_neg (by omega), if_neg (by omega), r1, if_neg (fun e => by rcases e.2 with e | e <;> cases e)]
    refine ⟨hE, ?_⟩
    unfold scanV
    rw [if_pos hE, (r2 hc).1, hg.1, k2]
  · rw [if_neg hc] at r1
    unfold scanE
    rw [if_neg (by omega), if_neg (by omega), if_pos ⟨hk, by rw [r1]; split; exact Or.inl rfl; exact Or.inr rfl⟩]
end Go.Proofs.YtimbbfneaaglbaaGreat.Scan

namespace Go.Proofs.YtimbbfneaaglbaaGreat.Log
open Go.Proofs.YtimbbfneaaglbaaGreat.Ints Go.Proofs.YtimbbfneaaglbaaGreat.SumMath Go.Proofs.YtimbbfneaaglbaaGreat.SumWalks Go.Proofs.YtimbbfneaaglbaaGreat.Trace Go.Proofs.YtimbbfneaaglbaaGreat.Record

/-- Where the i-th record behind a place stands. -/
def placeD (b : List Int) (p : Nat) : Nat → Nat
  | 0 => p
  | i + 1 => placeD b p i + (lenR (b.drop (placeD b p i)) + 6)
theorem place_shift (b : List Int) (p : Nat) : ∀ i, placeD b (p + (lenR (b.drop p) + 6)) i = placeD b p (i + 1) := by
  intro i
  induction i with
  | zero => rfl
  | succ i ih => rw [placeD, ih]; rfl
/-- The time ahead of the i-th record. -/
def timeD (last : Int) (l : List Ev) : Nat → Int
  | 0 => last
  | i + 1 => (l.getD i noEv).time
/-- What recsD tells, record by record. -/
theorem recs_walk (b : List Int) (props : Int) : ∀ (f p : Nat) (last : Int) (es : List Ev), b.length < f + p → ∃ l, (recsD b props f p last es).1 = es ++ l ∧
    (∀ i, i < l.length → errR (b.drop (placeD b p i)) (propsR props) = 0 ∧ evR (b.drop (placeD b p i)) = l.getD i noEv ∧ timeD last l i ≤ (l.getD i noEv).time ∧ placeD b p (i + 1) ≤ b.length ∧ placeD b p i + 14 ≤ placeD b p (i + 1)) ∧
    (((recsD b props f p last es).2 = errR (b.drop (placeD b p l.length)) (propsR props) ∧ (recsD b props f p last es).2 ≠ 0) ∨
      ((recsD b props f p last es).2 = 8 ∧ errR (b.drop (placeD b p l.length)) (propsR props) = 0 ∧ (evR (b.drop (placeD b p l.length))).time < timeD last l l.length)) := by
  intro f
  induction f with
  | zero =>
    intro p last es hp
    have hd : b.drop p = [] := List.drop_of_length_le (by omega)
    refine ⟨[], by simp [recsD], fun i hi => by simp at hi, Or.inl ⟨?_, ?_⟩⟩
    · show (13 : Nat) = errR (b.drop p) (propsR props)
      rw [hd]
      rfl
    · show (13 : Nat) ≠ 0
      decide
  | succ f ih =>
    intro p last es hp
    by_cases h1 : errR (b.drop p) (propsR props) = 0
    · by_cases h2 : (evR (b.drop p)).time < last
      · rw [recsD_time f h1 h2]
        exact ⟨[], by simp, fun i hi => by simp at hi, Or.inr ⟨rfl, h1, h2⟩⟩
      · rw [recsD_next f h1 h2]
        obtain ⟨g1, g2, g3, g4⟩ := get_ok h1
        have hl : (b.drop p).length = b.length - p := List.length_drop
        obtain ⟨l, k1, k2, k3⟩ := ih (p + (lenR (b.drop p) + 6)) (evR (b.drop p)).time (es ++ [evR (b.drop p)]) (by omega)
        refine ⟨evR (b.drop p) :: l, by rw [k1]; simp, fun i hi => ?_, ?_⟩
        · rcases i with _ | i
          · exact ⟨h1, rfl, by show last ≤ _; simp; omega, by show p + (lenR (b.drop p) + 6) ≤ b.length; omega, by show p + 14 ≤ p + (lenR (b.drop p) + 6); omega⟩
          · have hi2 : i < l.length := by simpa using hi
            obtain ⟨j1, j2, j3, j4, j5⟩ := k2 i hi2
            simp only [place_shift] at j1 j2 j4 j5
            have e : (evR (b.drop p) :: l).getD (i + 1) noEv = l.getD i noEv := by simp
            refine ⟨j1, by rw [e]; exact j2, ?_, j4, j5⟩
            rw [e]
            rcases i with _ | i
            · exact j3
            · exact j3
        · rw [List.length_cons]
          rw [place_shift] at k3
          have e : timeD (evR (b.drop p)).time l l.length = timeD last (evR (b.drop p) :: l) (l.length + 1) := by
            rcases hll : l.length with _ | m
            · rfl
            · simp [timeD]
          rw [e] at k3
          exact k3
    · rw [recsD_err f rfl h1]
      exact ⟨[], by simp, fun i hi => by simp at hi, Or.inl ⟨rfl, h1⟩⟩
end Go.Proofs.YtimbbfneaaglbaaGreat.Log
