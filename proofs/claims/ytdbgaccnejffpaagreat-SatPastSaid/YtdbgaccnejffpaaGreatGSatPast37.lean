/-
  The law's Past (stage 15). By an AI agent.
-/
import Derived.Test.YtdbgaccnejffpaaGreatGSatPast36
import Derived.Test.YtdbgaccnejffpaaGreatGSatPast5
import Derived.Test.YtdbgaccnejffpaaGreatGSatPast6
namespace Go.Proofs.YtdbgaccnejffpaaGreat.Sat
open Go.RowKit Go.Proofs.YtdbgaccnejffpaaGreat.Ints Go.Proofs.YtdbgaccnejffpaaGreat.Mem Go.Proofs.YtdbgaccnejffpaaGreat.Src Go.Proofs.YtdbgaccnejffpaaGreat.Paths Go.Proofs.YtdbgaccnejffpaaGreat.Late Go.Proofs.YtdbgaccnejffpaaGreat.Trace

def reS (g : Int → Int) (s : Tree.SNd) : Tree.SNd := (reKind g s.1, s.2)
theorem reS_ok {g : Int → Int} {S : Nat → Prop} {w : World} {s : Tree.SNd} (h : Tree.KidOk S w s) (hg : Tree.small64 (g s.1.kind)) : Tree.KidOk S w (reS g s) := by
 obtain ⟨⟨h5, h6, h7, h8, h10, h11, h12⟩, h14⟩ := h
 exact ⟨⟨hg, h6, h7, h8, h10, h11, h12⟩, h14⟩
theorem pastG_small (past : Bool) (k : Int) (h : Tree.small64 k) : Tree.small64 (pastG past k) := by
 rcases pastG_ways past k with e | e | e | e | e
 · rw [e]; exact h
 all_goals
   unfold Tree.small64 at *
   omega
theorem below_app {w W w' : World} {o : Obj} {v : Value} (hb : Below w.heap.size w W) (hg : (W.alloc o).grownBy w' v.ownBlock) (hv : ∀ b, v.ownBlock = some b → w.heap.size ≤ b) : Below w.heap.size w w' := by
 have h1 : Below w.heap.size w (W.alloc o) := hb.trans (((Below.refl _ W).alloc (Nat.le_refl _) o).mono hb.size)
 exact h1.trans ⟨hg.os, hg.tape, hg.output, hg.size, fun j hj => hg.block j (Nat.lt_of_lt_of_le hj h1.size) (fun e => by have := hv j e.symm; omega)⟩
set_option maxHeartbeats 8000000 in
set_option maxRecDepth 100000 in
theorem lawPast (A : Option Addr) (n c : Nat) (l : List Tree.Nd) (past : Bool) (w : World) (hN : Tree.Nodes Tree.Any w A l) (hl : l.length = n) (hn : n ≤ 1000) :
   Calls Tryz.prog 14 #[.slice A n c, .bool past] w (Tree.GotNodes Tree.Any w (l.map (reKind (pastG past)))) := by
 obtain ⟨i0, hi, hz0, hz1, hz2⟩ := info_parts Tree.infoNode
 obtain ⟨σ, e1, e2, e3⟩ := hN.stored
 have hσ : σ.length = n := by rw [← hl, ← e1, List.length_map]
 have HE := Lib.hid (And.intro e1 (And.intro e2 (And.intro e3 hσ)))
 have HB0 := Lib.hid (Below.refl w.heap.size w)
 have HL := Lib.hid hl
 have hni : ((n : Nat) : Int) ≤ 1000 := by omega
 clear hN e1 e2 e3 hσ hl
 go_enter Tryz.func14, Tryz.ntmps14
 go_wp2_with fail
 go_loopw [5, 10] (fun v u wr => ∃ k : Nat, u = .int .i64 ((k : Nat) : Int) ∧ k ≤ n ∧ Tree.OwnNodes (fun b => b < w.heap.size) wr w.heap.size v ((σ.take k).map (reS (pastG past))) ∧ Below w.heap.size w wr) (fun _ u _ => n - (intOf u).toNat)
 case atStart => exact ⟨0, rfl, Nat.zero_le _, Tree.OwnNodes.nil _ _ _, HB0.out⟩
 case round =>
   obtain ⟨k, rfl, hkn, hO, hB⟩ := hrel
   have HO := Lib.hid hO
   have HB := Lib.hid hB
   by_cases hlt : k < n
   · obtain ⟨b, off, hA, -, hcs⟩ := HE.out.2.2.1 (by have := HL.out; omega)
     obtain ⟨s, hs⟩ : ∃ s, σ[k]? = some s := ⟨_, List.getElem?_eq_getElem (by rw [HE.out.2.2.2]; exact hlt)⟩
     have hc := hcs k s hs
     have hKO := (HE.out.2.1 s (List.mem_of_getElem? hs)).mono (S' := fun b => b < w.heap.size) (fun b hb _ => hb)
     have hKP := reS_ok (g := pastG past) hKO (pastG_small past _ hKO.1.1)
     have hsb := hKO.1.1
     obtain ⟨⟨kd, nm, lo, hi2, ks⟩, K, cK⟩ := s
     obtain ⟨m, hm⟩ : ∃ m, ks.length = m := ⟨_, rfl⟩
     subst hA
     rw [Nat.mul_comm 5 k] at hc
     have x0 := below_cell hB (hc 0 (by decide))
     have x1 := below_cell hB (hc 1 (by decide))
     have x2 := below_cell hB (hc 2 (by decide))
     have x3 := below_cell hB (hc 3 (by decide))
     have x4 := below_cell hB (hc 4 (by decide))
     have y0 : wr.cell? ⟨b, off + k * 5, none⟩ = some (.int .i64 kd) := x0
     have y1 : wr.cell? ⟨b, off + k * 5 + 1, none⟩ = some (.string nm) := x1
     have y2 : wr.cell? ⟨b, off + k * 5 + 2, none⟩ = some (.int .i64 lo) := x2
     have y3 : wr.cell? ⟨b, off + k * 5 + 3, none⟩ = some (.int .i64 hi2) := x3
     have y4 : wr.cell? ⟨b, off + k * 5 + 4, none⟩ = some (.slice K m cK)   := by rw [← hm]; exact x4
     clear x0 x1 x2 x3 x4
     have hki : ((k : Nat) : Int) < ((n : Nat) : Int) := by omega
     obtain ⟨kd2, hk2⟩ : ∃ x, pastG past kd = x := ⟨_, rfl⟩
     have HKP := Lib.hid ((hKP.below hB).mono (S' := fun b => b < w.heap.size ∧ some b ≠ u5.ownBlock) (fun b _ hb => ⟨hb, fun e => by have := (World.ownsRow.lt hO.1 b e.symm).1; omega⟩))
     have HS := Lib.hid (And.intro hs (And.intro hm hk2))
     have HTK := Lib.hid (show ((σ.take k).map (reS (pastG past))).length ≤ 4194304 from by rw [List.length_map, List.length_take]; omega)
     clear hO hB hcs hc hKO hKP hs
     cases past
     · have hw : kd = 8 ∨ kd = 14 ∨ kd = 16 ∨ kd = 10 ∨ kd = 11 ∨ (kd ≠ 8 ∧ kd ≠ 14 ∧ kd ≠ 16 ∧ kd ≠ 10 ∧ kd ≠ 11) := by omega
       rcases hw with rfl | rfl | rfl | rfl | rfl | ⟨k1, k2, k3, k4, k5⟩
       · have hk2 : kd2 = 9 := by rw [← hk2]; rfl
         subst hk2
         obtain ⟨W5, hW5⟩ : ∃ W5, wr.alloc (.cells #[.int .i64 9, .string nm, .int .i64 lo, .int .i64 hi2, .slice K m cK] 47) = W5 := ⟨_, rfl⟩
         have hb5 : Below wr.heap.size wr W5 := by rw [← hW5]; exact (Below.refl _ _).alloc (Nat.le_refl _) _
         have HO5 := Lib.hid (HO.out.below hb5)
         have HK5 := Lib.hid (HKP.out.below hb5)
         have HB5 := Lib.hid (HB.out.trans (hb5.mono HB.out.size))
         have HW5 := Lib.hid hW5
         have hsz5 := Lib.hid (show W5.heap.size = wr.heap.size + 1 from by rw [← hW5]; simp)
         have hcell := Lib.hid (show (#[.int .i64 9, .string nm, .int .i64 lo, .int .i64 hi2, .slice K m cK] : Array Value) = (Tree.cellsS (reS (pastG false) (⟨8, nm, lo, hi2, ks⟩, K, cK))).toArray from by rw [← hm]; rfl)
         clear hb5 hW5 hm
         go_wp2_with (at_builtin; rw [HW5.out]; refine Tree.wpList_append_nd rfl (.tmp 90) (.tmp 92) 26 rfl w.heap.size i0 _ Tryz.underlying26 hi hz0 hz1 hz2 rfl u5 _ (by rfl) (fun b => b < w.heap.size) HO5.out _ HK5.out _ _ hcell.out (wr.heap.size + 1) hsz5.out (by rfl) HTK.out HB5.out.size ?_; intro v6 w6 hown6 hgr6 hat6; have HN6 := Lib.hid hown6; have HG6 := Lib.hid hgr6; clear hown6 hgr6 hat6)
         go_roundw
         case rel =>
           refine ⟨k + 1, by simp, by omega, ?_, ?_⟩
           · rw [List.take_add_one, HS.out.1, Option.toList_some, List.map_append]
             exact HN6.out
           · exact below_app HB5.out HG6.out (fun j e => (World.ownsRow.lt HO5.out.1 j e).1)
         case measure => (show n - (k + 1) < n - k; omega)
       · have hk2 : kd2 = 15 := by rw [← hk2]; rfl
         subst hk2
         obtain ⟨W5, hW5⟩ : ∃ W5, wr.alloc (.cells #[.int .i64 15, .string nm, .int .i64 lo, .int .i64 hi2, .slice K m cK] 47) = W5 := ⟨_, rfl⟩
         have hb5 : Below wr.heap.size wr W5 := by rw [← hW5]; exact (Below.refl _ _).alloc (Nat.le_refl _) _
         have HO5 := Lib.hid (HO.out.below hb5)
         have HK5 := Lib.hid (HKP.out.below hb5)
         have HB5 := Lib.hid (HB.out.trans (hb5.mono HB.out.size))
         have HW5 := Lib.hid hW5
         have hsz5 := Lib.hid (show W5.heap.size = wr.heap.size + 1 from by rw [← hW5]; simp)
         have hcell := Lib.hid (show (#[.int .i64 15, .string nm, .int .i64 lo, .int .i64 hi2, .slice K m cK] : Array Value) = (Tree.cellsS (reS (pastG false) (⟨14, nm, lo, hi2, ks⟩, K, cK))).toArray from by rw [← hm]; rfl)
         clear hb5 hW5 hm
         go_wp2_with (at_builtin; rw [HW5.out]; refine Tree.wpList_append_nd rfl (.tmp 90) (.tmp 92) 26 rfl w.heap.size i0 _ Tryz.underlying26 hi hz0 hz1 hz2 rfl u5 _ (by rfl) (fun b => b < w.heap.size) HO5.out _ HK5.out _ _ hcell.out (wr.heap.size + 1) hsz5.out (by rfl) HTK.out HB5.out.size ?_; intro v6 w6 hown6 hgr6 hat6; have HN6 := Lib.hid hown6; have HG6 := Lib.hid hgr6; clear hown6 hgr6 hat6)
         go_roundw
         case rel =>
           refine ⟨k + 1, by simp, by omega, ?_, ?_⟩
           · rw [List.take_add_one, HS.out.1, Option.toList_some, List.map_append]
             exact HN6.out
           · exact below_app HB5.out HG6.out (fun j e => (World.ownsRow.lt HO5.out.1 j e).1)
         case measure => (show n - (k + 1) < n - k; omega)
       · have hk2 : kd2 = 17 := by rw [← hk2]; rfl
         subst hk2
         obtain ⟨W5, hW5⟩ : ∃ W5, wr.alloc (.cells #[.int .i64 17, .string nm, .int .i64 lo, .int .i64 hi2, .slice K m cK] 47) = W5 := ⟨_, rfl⟩
         have hb5 : Below wr.heap.size wr W5 := by rw [← hW5]; exact (Below.refl _ _).alloc (Nat.le_refl _) _
         have HO5 := Lib.hid (HO.out.below hb5)
         have HK5 := Lib.hid (HKP.out.below hb5)
         have HB5 := Lib.hid (HB.out.trans (hb5.mono HB.out.size))
         have HW5 := Lib.hid hW5
         have hsz5 := Lib.hid (show W5.heap.size = wr.heap.size + 1 from by rw [← hW5]; simp)
         have hcell := Lib.hid (show (#[.int .i64 17, .string nm, .int .i64 lo, .int .i64 hi2, .slice K m cK] : Array Value) = (Tree.cellsS (reS (pastG false) (⟨16, nm, lo, hi2, ks⟩, K, cK))).toArray from by rw [← hm]; rfl)
         clear hb5 hW5 hm
         go_wp2_with (at_builtin; rw [HW5.out]; refine Tree.wpList_append_nd rfl (.tmp 90) (.tmp 92) 26 rfl w.heap.size i0 _ Tryz.underlying26 hi hz0 hz1 hz2 rfl u5 _ (by rfl) (fun b => b < w.heap.size) HO5.out _ HK5.out _ _ hcell.out (wr.heap.size + 1) hsz5.out (by rfl) HTK.out HB5.out.size ?_; intro v6 w6 hown6 hgr6 hat6; have HN6 := Lib.hid hown6; have HG6 := Lib.hid hgr6; clear hown6 hgr6 hat6)
         go_roundw
         case rel =>
           refine ⟨k + 1, by simp, by omega, ?_, ?_⟩
           · rw [List.take_add_one, HS.out.1, Option.toList_some, List.map_append]
             exact HN6.out
           · exact below_app HB5.out HG6.out (fun j e => (World.ownsRow.lt HO5.out.1 j e).1)
         case measure => (show n - (k + 1) < n - k; omega)
       · have hk2 : kd2 = 12 := by rw [← hk2]; rfl
         subst hk2
         obtain ⟨W5, hW5⟩ : ∃ W5, wr.alloc (.cells #[.int .i64 12, .string nm, .int .i64 lo, .int .i64 hi2, .slice K m cK] 47) = W5 := ⟨_, rfl⟩
         have hb5 : Below wr.heap.size wr W5 := by rw [← hW5]; exact (Below.refl _ _).alloc (Nat.le_refl _) _
         have HO5 := Lib.hid (HO.out.below hb5)
         have HK5 := Lib.hid (HKP.out.below hb5)
         have HB5 := Lib.hid (HB.out.trans (hb5.mono HB.out.size))
         have HW5 := Lib.hid hW5
         have hsz5 := Lib.hid (show W5.heap.size = wr.heap.size + 1 from by rw [← hW5]; simp)
         have hcell := Lib.hid (show (#[.int .i64 12, .string nm, .int .i64 lo, .int .i64 hi2, .slice K m cK] : Array Value) = (Tree.cellsS (reS (pastG false) (⟨10, nm, lo, hi2, ks⟩, K, cK))).toArray from by rw [← hm]; rfl)
         clear hb5 hW5 hm
         go_wp2_with (at_builtin; rw [HW5.out]; refine Tree.wpList_append_nd rfl (.tmp 90) (.tmp 92) 26 rfl w.heap.size i0 _ Tryz.underlying26 hi hz0 hz1 hz2 rfl u5 _ (by rfl) (fun b => b < w.heap.size) HO5.out _ HK5.out _ _ hcell.out (wr.heap.size + 1) hsz5.out (by rfl) HTK.out HB5.out.size ?_; intro v6 w6 hown6 hgr6 hat6; have HN6 := Lib.hid hown6; have HG6 := Lib.hid hgr6; clear hown6 hgr6 hat6)
         go_roundw
         case rel =>
           refine ⟨k + 1, by simp, by omega, ?_, ?_⟩
           · rw [List.take_add_one, HS.out.1, Option.toList_some, List.map_append]
             exact HN6.out
           · exact below_app HB5.out HG6.out (fun j e => (World.ownsRow.lt HO5.out.1 j e).1)
         case measure => (show n - (k + 1) < n - k; omega)
       · have hk2 : kd2 = 13 := by rw [← hk2]; rfl
         subst hk2
         obtain ⟨W5, hW5⟩ : ∃ W5, wr.alloc (.cells #[.int .i64 13, .string nm, .int .i64 lo, .int .i64 hi2, .slice K m cK] 47) = W5 := ⟨_, rfl⟩
         have hb5 : Below wr.heap.size wr W5 := by rw [← hW5]; exact (Below.refl _ _).alloc (Nat.le_refl _) _
         have HO5 := Lib.hid (HO.out.below hb5)
         have HK5 := Lib.hid (HKP.out.below hb5)
         have HB5 := Lib.hid (HB.out.trans (hb5.mono HB.out.size))
         have HW5 := Lib.hid hW5
         have hsz5 := Lib.hid (show W5.heap.size = wr.heap.size + 1 from by rw [← hW5]; simp)
         have hcell := Lib.hid (show (#[.int .i64 13, .string nm, .int .i64 lo, .int .i64 hi2, .slice K m cK] : Array Value) = (Tree.cellsS (reS (pastG false) (⟨11, nm, lo, hi2, ks⟩, K, cK))).toArray from by rw [← hm]; rfl)
         clear hb5 hW5 hm
         go_wp2_with (at_builtin; rw [HW5.out]; refine Tree.wpList_append_nd rfl (.tmp 90) (.tmp 92) 26 rfl w.heap.size i0 _ Tryz.underlying26 hi hz0 hz1 hz2 rfl u5 _ (by rfl) (fun b => b < w.heap.size) HO5.out _ HK5.out _ _ hcell.out (wr.heap.size + 1) hsz5.out (by rfl) HTK.out HB5.out.size ?_; intro v6 w6 hown6 hgr6 hat6; have HN6 := Lib.hid hown6; have HG6 := Lib.hid hgr6; clear hown6 hgr6 hat6)
         go_roundw
         case rel =>
           refine ⟨k + 1, by simp, by omega, ?_, ?_⟩
           · rw [List.take_add_one, HS.out.1, Option.toList_some, List.map_append]
             exact HN6.out
           · exact below_app HB5.out HG6.out (fun j e => (World.ownsRow.lt HO5.out.1 j e).1)
         case measure => (show n - (k + 1) < n - k; omega)
       · have hk3 : pastG false kd = kd := by unfold pastG; rw [if_neg (by decide), if_neg (by omega), if_neg (by omega)]
         have q1 : (kd == 8) = false := beq_false_of_ne k1
         have q2 : (kd == 14) = false := beq_false_of_ne k2
         have q3 : (kd == 16) = false := beq_false_of_ne k3
         have q4 : (kd == 10) = false := beq_false_of_ne k4
         have q5 : (kd == 11) = false := beq_false_of_ne k5
         have r1 : decide (kd = 8) = false := decide_eq_false k1
         have r2 : decide (kd = 14) = false := decide_eq_false k2
         have r3 : decide (kd = 16) = false := decide_eq_false k3
         have r4 : decide (kd = 10) = false := decide_eq_false k4
         have r5 : decide (kd = 11) = false := decide_eq_false k5
         have hk2 : kd = kd2 := by rw [← hk2]; symm; unfold pastG; rw [if_neg (by decide), if_neg (by omega), if_neg (by omega)]
         subst hk2
         obtain ⟨W5, hW5⟩ : ∃ W5, wr.alloc (.cells #[.int .i64 kd, .string nm, .int .i64 lo, .int .i64 hi2, .slice K m cK] 47) = W5 := ⟨_, rfl⟩
         have hb5 : Below wr.heap.size wr W5 := by rw [← hW5]; exact (Below.refl _ _).alloc (Nat.le_refl _) _
         have HO5 := Lib.hid (HO.out.below hb5)
         have HK5 := Lib.hid (HKP.out.below hb5)
         have HB5 := Lib.hid (HB.out.trans (hb5.mono HB.out.size))
         have HW5 := Lib.hid hW5
         have hsz5 := Lib.hid (show W5.heap.size = wr.heap.size + 1 from by rw [← hW5]; simp)
         have hcell := Lib.hid (show (#[.int .i64 kd, .string nm, .int .i64 lo, .int .i64 hi2, .slice K m cK] : Array Value) = (Tree.cellsS (reS (pastG false) (⟨kd, nm, lo, hi2, ks⟩, K, cK))).toArray from by rw [← hm]; show _ = (#[.int .i64 (pastG false kd), .string nm, .int .i64 lo, .int .i64 hi2, .slice K ks.length cK] : Array Value); rw [hk3])
         clear hb5 hW5 hm
         go_wp2_with (at_builtin; rw [HW5.out]; refine Tree.wpList_append_nd rfl (.tmp 90) (.tmp 92) 26 rfl w.heap.size i0 _ Tryz.underlying26 hi hz0 hz1 hz2 rfl u5 _ (by rfl) (fun b => b < w.heap.size) HO5.out _ HK5.out _ _ hcell.out (wr.heap.size + 1) hsz5.out (by rfl) HTK.out HB5.out.size ?_; intro v6 w6 hown6 hgr6 hat6; have HN6 := Lib.hid hown6; have HG6 := Lib.hid hgr6; clear hown6 hgr6 hat6)
         go_roundw
         case rel =>
           refine ⟨k + 1, by simp, by omega, ?_, ?_⟩
           · rw [List.take_add_one, HS.out.1, Option.toList_some, List.map_append]
             exact HN6.out
           · exact below_app HB5.out HG6.out (fun j e => (World.ownsRow.lt HO5.out.1 j e).1)
         case measure => (show n - (k + 1) < n - k; omega)
     · have hw : kd = 9 ∨ kd = 15 ∨ kd = 17 ∨ kd = 12 ∨ kd = 13 ∨ (kd ≠ 9 ∧ kd ≠ 15 ∧ kd ≠ 17 ∧ kd ≠ 12 ∧ kd ≠ 13) := by omega
       rcases hw with rfl | rfl | rfl | rfl | rfl | ⟨k1, k2, k3, k4, k5⟩
       · have hk2 : kd2 = 8 := by rw [← hk2]; rfl
         subst hk2
         obtain ⟨W5, hW5⟩ : ∃ W5, wr.alloc (.cells #[.int .i64 8, .string nm, .int .i64 lo, .int .i64 hi2, .slice K m cK] 47) = W5 := ⟨_, rfl⟩
         have hb5 : Below wr.heap.size wr W5 := by rw [← hW5]; exact (Below.refl _ _).alloc (Nat.le_refl _) _
         have HO5 := Lib.hid (HO.out.below hb5)
         have HK5 := Lib.hid (HKP.out.below hb5)
         have HB5 := Lib.hid (HB.out.trans (hb5.mono HB.out.size))
         have HW5 := Lib.hid hW5
         have hsz5 := Lib.hid (show W5.heap.size = wr.heap.size + 1 from by rw [← hW5]; simp)
         have hcell := Lib.hid (show (#[.int .i64 8, .string nm, .int .i64 lo, .int .i64 hi2, .slice K m cK] : Array Value) = (Tree.cellsS (reS (pastG true) (⟨9, nm, lo, hi2, ks⟩, K, cK))).toArray from by rw [← hm]; rfl)
         clear hb5 hW5 hm
         go_wp2_with (at_builtin; rw [HW5.out]; refine Tree.wpList_append_nd rfl (.tmp 90) (.tmp 92) 26 rfl w.heap.size i0 _ Tryz.underlying26 hi hz0 hz1 hz2 rfl u5 _ (by rfl) (fun b => b < w.heap.size) HO5.out _ HK5.out _ _ hcell.out (wr.heap.size + 1) hsz5.out (by rfl) HTK.out HB5.out.size ?_; intro v6 w6 hown6 hgr6 hat6; have HN6 := Lib.hid hown6; have HG6 := Lib.hid hgr6; clear hown6 hgr6 hat6)
         go_roundw
         case rel =>
           refine ⟨k + 1, by simp, by omega, ?_, ?_⟩
           · rw [List.take_add_one, HS.out.1, Option.toList_some, List.map_append]
             exact HN6.out
           · exact below_app HB5.out HG6.out (fun j e => (World.ownsRow.lt HO5.out.1 j e).1)
         case measure => (show n - (k + 1) < n - k; omega)
       · have hk2 : kd2 = 14 := by rw [← hk2]; rfl
         subst hk2
         obtain ⟨W5, hW5⟩ : ∃ W5, wr.alloc (.cells #[.int .i64 14, .string nm, .int .i64 lo, .int .i64 hi2, .slice K m cK] 47) = W5 := ⟨_, rfl⟩
         have hb5 : Below wr.heap.size wr W5 := by rw [← hW5]; exact (Below.refl _ _).alloc (Nat.le_refl _) _
         have HO5 := Lib.hid (HO.out.below hb5)
         have HK5 := Lib.hid (HKP.out.below hb5)
         have HB5 := Lib.hid (HB.out.trans (hb5.mono HB.out.size))
         have HW5 := Lib.hid hW5
         have hsz5 := Lib.hid (show W5.heap.size = wr.heap.size + 1 from by rw [← hW5]; simp)
         have hcell := Lib.hid (show (#[.int .i64 14, .string nm, .int .i64 lo, .int .i64 hi2, .slice K m cK] : Array Value) = (Tree.cellsS (reS (pastG true) (⟨15, nm, lo, hi2, ks⟩, K, cK))).toArray from by rw [← hm]; rfl)
         clear hb5 hW5 hm
         go_wp2_with (at_builtin; rw [HW5.out]; refine Tree.wpList_append_nd rfl (.tmp 90) (.tmp 92) 26 rfl w.heap.size i0 _ Tryz.underlying26 hi hz0 hz1 hz2 rfl u5 _ (by rfl) (fun b => b < w.heap.size) HO5.out _ HK5.out _ _ hcell.out (wr.heap.size + 1) hsz5.out (by rfl) HTK.out HB5.out.size ?_; intro v6 w6 hown6 hgr6 hat6; have HN6 := Lib.hid hown6; have HG6 := Lib.hid hgr6; clear hown6 hgr6 hat6)
         go_roundw
         case rel =>
           refine ⟨k + 1, by simp, by omega, ?_, ?_⟩
           · rw [List.take_add_one, HS.out.1, Option.toList_some, List.map_append]
             exact HN6.out
           · exact below_app HB5.out HG6.out (fun j e => (World.ownsRow.lt HO5.out.1 j e).1)
         case measure => (show n - (k + 1) < n - k; omega)
       · have hk2 : kd2 = 16 := by rw [← hk2]; rfl
         subst hk2
         obtain ⟨W5, hW5⟩ : ∃ W5, wr.alloc (.cells #[.int .i64 16, .string nm, .int .i64 lo, .int .i64 hi2, .slice K m cK] 47) = W5 := ⟨_, rfl⟩
         have hb5 : Below wr.heap.size wr W5 := by rw [← hW5]; exact (Below.refl _ _).alloc (Nat.le_refl _) _
         have HO5 := Lib.hid (HO.out.below hb5)
         have HK5 := Lib.hid (HKP.out.below hb5)
         have HB5 := Lib.hid (HB.out.trans (hb5.mono HB.out.size))
         have HW5 := Lib.hid hW5
         have hsz5 := Lib.hid (show W5.heap.size = wr.heap.size + 1 from by rw [← hW5]; simp)
         have hcell := Lib.hid (show (#[.int .i64 16, .string nm, .int .i64 lo, .int .i64 hi2, .slice K m cK] : Array Value) = (Tree.cellsS (reS (pastG true) (⟨17, nm, lo, hi2, ks⟩, K, cK))).toArray from by rw [← hm]; rfl)
         clear hb5 hW5 hm
         go_wp2_with (at_builtin; rw [HW5.out]; refine Tree.wpList_append_nd rfl (.tmp 90) (.tmp 92) 26 rfl w.heap.size i0 _ Tryz.underlying26 hi hz0 hz1 hz2 rfl u5 _ (by rfl) (fun b => b < w.heap.size) HO5.out _ HK5.out _ _ hcell.out (wr.heap.size + 1) hsz5.out (by rfl) HTK.out HB5.out.size ?_; intro v6 w6 hown6 hgr6 hat6; have HN6 := Lib.hid hown6; have HG6 := Lib.hid hgr6; clear hown6 hgr6 hat6)
         go_roundw
         case rel =>
           refine ⟨k + 1, by simp, by omega, ?_, ?_⟩
           · rw [List.take_add_one, HS.out.1, Option.toList_some, List.map_append]
             exact HN6.out
           · exact below_app HB5.out HG6.out (fun j e => (World.ownsRow.lt HO5.out.1 j e).1)
         case measure => (show n - (k + 1) < n - k; omega)
       · have hk2 : kd2 = 10 := by rw [← hk2]; rfl
         subst hk2
         obtain ⟨W5, hW5⟩ : ∃ W5, wr.alloc (.cells #[.int .i64 10, .string nm, .int .i64 lo, .int .i64 hi2, .slice K m cK] 47) = W5 := ⟨_, rfl⟩
         have hb5 : Below wr.heap.size wr W5 := by rw [← hW5]; exact (Below.refl _ _).alloc (Nat.le_refl _) _
         have HO5 := Lib.hid (HO.out.below hb5)
         have HK5 := Lib.hid (HKP.out.below hb5)
         have HB5 := Lib.hid (HB.out.trans (hb5.mono HB.out.size))
         have HW5 := Lib.hid hW5
         have hsz5 := Lib.hid (show W5.heap.size = wr.heap.size + 1 from by rw [← hW5]; simp)
         have hcell := Lib.hid (show (#[.int .i64 10, .string nm, .int .i64 lo, .int .i64 hi2, .slice K m cK] : Array Value) = (Tree.cellsS (reS (pastG true) (⟨12, nm, lo, hi2, ks⟩, K, cK))).toArray from by rw [← hm]; rfl)
         clear hb5 hW5 hm
         go_wp2_with (at_builtin; rw [HW5.out]; refine Tree.wpList_append_nd rfl (.tmp 90) (.tmp 92) 26 rfl w.heap.size i0 _ Tryz.underlying26 hi hz0 hz1 hz2 rfl u5 _ (by rfl) (fun b => b < w.heap.size) HO5.out _ HK5.out _ _ hcell.out (wr.heap.size + 1) hsz5.out (by rfl) HTK.out HB5.out.size ?_; intro v6 w6 hown6 hgr6 hat6; have HN6 := Lib.hid hown6; have HG6 := Lib.hid hgr6; clear hown6 hgr6 hat6)
         go_roundw
         case rel =>
           refine ⟨k + 1, by simp, by omega, ?_, ?_⟩
           · rw [List.take_add_one, HS.out.1, Option.toList_some, List.map_append]
             exact HN6.out
           · exact below_app HB5.out HG6.out (fun j e => (World.ownsRow.lt HO5.out.1 j e).1)
         case measure => (show n - (k + 1) < n - k; omega)
       · have hk2 : kd2 = 11 := by rw [← hk2]; rfl
         subst hk2
         obtain ⟨W5, hW5⟩ : ∃ W5, wr.alloc (.cells #[.int .i64 11, .string nm, .int .i64 lo, .int .i64 hi2, .slice K m cK] 47) = W5 := ⟨_, rfl⟩
         have hb5 : Below wr.heap.size wr W5 := by rw [← hW5]; exact (Below.refl _ _).alloc (Nat.le_refl _) _
         have HO5 := Lib.hid (HO.out.below hb5)
         have HK5 := Lib.hid (HKP.out.below hb5)
         have HB5 := Lib.hid (HB.out.trans (hb5.mono HB.out.size))
         have HW5 := Lib.hid hW5
         have hsz5 := Lib.hid (show W5.heap.size = wr.heap.size + 1 from by rw [← hW5]; simp)
         have hcell := Lib.hid (show (#[.int .i64 11, .string nm, .int .i64 lo, .int .i64 hi2, .slice K m cK] : Array Value) = (Tree.cellsS (reS (pastG true) (⟨13, nm, lo, hi2, ks⟩, K, cK))).toArray from by rw [← hm]; rfl)
         clear hb5 hW5 hm
         go_wp2_with (at_builtin; rw [HW5.out]; refine Tree.wpList_append_nd rfl (.tmp 90) (.tmp 92) 26 rfl w.heap.size i0 _ Tryz.underlying26 hi hz0 hz1 hz2 rfl u5 _ (by rfl) (fun b => b < w.heap.size) HO5.out _ HK5.out _ _ hcell.out (wr.heap.size + 1) hsz5.out (by rfl) HTK.out HB5.out.size ?_; intro v6 w6 hown6 hgr6 hat6; have HN6 := Lib.hid hown6; have HG6 := Lib.hid hgr6; clear hown6 hgr6 hat6)
         go_roundw
         case rel =>
           refine ⟨k + 1, by simp, by omega, ?_, ?_⟩
           · rw [List.take_add_one, HS.out.1, Option.toList_some, List.map_append]
             exact HN6.out
           · exact below_app HB5.out HG6.out (fun j e => (World.ownsRow.lt HO5.out.1 j e).1)
         case measure => (show n - (k + 1) < n - k; omega)
       · have hk3 : pastG true kd = kd := by unfold pastG; rw [if_pos rfl, if_neg (by omega), if_neg (by omega)]
         have q1 : (kd == 9) = false := beq_false_of_ne k1
         have q2 : (kd == 15) = false := beq_false_of_ne k2
         have q3 : (kd == 17) = false := beq_false_of_ne k3
         have q4 : (kd == 12) = false := beq_false_of_ne k4
         have q5 : (kd == 13) = false := beq_false_of_ne k5
         have r1 : decide (kd = 9) = false := decide_eq_false k1
         have r2 : decide (kd = 15) = false := decide_eq_false k2
         have r3 : decide (kd = 17) = false := decide_eq_false k3
         have r4 : decide (kd = 12) = false := decide_eq_false k4
         have r5 : decide (kd = 13) = false := decide_eq_false k5
         have hk2 : kd = kd2 := by rw [← hk2]; symm; unfold pastG; rw [if_pos rfl, if_neg (by omega), if_neg (by omega)]
         subst hk2
         obtain ⟨W5, hW5⟩ : ∃ W5, wr.alloc (.cells #[.int .i64 kd, .string nm, .int .i64 lo, .int .i64 hi2, .slice K m cK] 47) = W5 := ⟨_, rfl⟩
         have hb5 : Below wr.heap.size wr W5 := by rw [← hW5]; exact (Below.refl _ _).alloc (Nat.le_refl _) _
         have HO5 := Lib.hid (HO.out.below hb5)
         have HK5 := Lib.hid (HKP.out.below hb5)
         have HB5 := Lib.hid (HB.out.trans (hb5.mono HB.out.size))
         have HW5 := Lib.hid hW5
         have hsz5 := Lib.hid (show W5.heap.size = wr.heap.size + 1 from by rw [← hW5]; simp)
         have hcell := Lib.hid (show (#[.int .i64 kd, .string nm, .int .i64 lo, .int .i64 hi2, .slice K m cK] : Array Value) = (Tree.cellsS (reS (pastG true) (⟨kd, nm, lo, hi2, ks⟩, K, cK))).toArray from by rw [← hm]; show _ = (#[.int .i64 (pastG true kd), .string nm, .int .i64 lo, .int .i64 hi2, .slice K ks.length cK] : Array Value); rw [hk3])
         clear hb5 hW5 hm
         go_wp2_with (at_builtin; rw [HW5.out]; refine Tree.wpList_append_nd rfl (.tmp 90) (.tmp 92) 26 rfl w.heap.size i0 _ Tryz.underlying26 hi hz0 hz1 hz2 rfl u5 _ (by rfl) (fun b => b < w.heap.size) HO5.out _ HK5.out _ _ hcell.out (wr.heap.size + 1) hsz5.out (by rfl) HTK.out HB5.out.size ?_; intro v6 w6 hown6 hgr6 hat6; have HN6 := Lib.hid hown6; have HG6 := Lib.hid hgr6; clear hown6 hgr6 hat6)
         go_roundw
         case rel =>
           refine ⟨k + 1, by simp, by omega, ?_, ?_⟩
           · rw [List.take_add_one, HS.out.1, Option.toList_some, List.map_append]
             exact HN6.out
           · exact below_app HB5.out HG6.out (fun j e => (World.ownsRow.lt HO5.out.1 j e).1)
         case measure => (show n - (k + 1) < n - k; omega)
   · obtain rfl : k = n := by omega
     clear hO hB
     go_wp2_with fail
     go_ret
     have h1 := HO.out
     rw [show σ.take k = σ from List.take_of_length_le (by rw [HE.out.2.2.2]; exact Nat.le_refl _)] at h1
     refine Tree.GotNodes.own (h1.mono (S' := Tree.Any) (fun _ _ _ => trivial)) ?_ (fun _ _ _ => trivial) HB.out
     rw [← HE.out.1, List.map_map, List.map_map]
     rfl
end Go.Proofs.YtdbgaccnejffpaaGreat.Sat
