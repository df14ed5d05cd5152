/-
  The walks of the landed spanText and own. By an AI agent.
-/
import Derived.Test.YthcbgneoonekkaaGreatDoorGShowBack9
import Derived.Deep.RegionWith
namespace Go.Proofs.YthcbgneoonekkaaGreatDoor.Show
open Go.RowKit Go.Proofs.YthcbgneoonekkaaGreatDoor.Tree Go.Proofs.YthcbgneoonekkaaGreatDoor.Itoa Go.Proofs.YthcbgneoonekkaaGreatDoor.Ints

/-- A node's interval, as it is written. -/
def spanW (n : Nd) : List UInt8 := if timed n.kind = true then spanT n.lo n.hi else []
theorem spanW_len (n : Nd) : (spanW n).length ≤ 45 := by
  unfold spanW
  split
  · exact span_len _ _
  · exact Nat.zero_le _
set_option maxHeartbeats 8000000 in
set_option maxRecDepth 100000 in
theorem landSpanText (nd : Nd) (K : Option Addr) (m c : Nat) (w : World) (hT : Tab10 w) :
    Calls Tryz.prog 49 #[.agg #[.int .i64 nd.kind, .string nd.name, .int .i64 nd.lo, .int .i64 nd.hi, .slice K m c]] w fun e w' => e = .returned (.string (Lex.bytes (spanW nd))) ∧ Below w.heap.size w w' := by
  obtain ⟨kd, nm, lo, hi, ks⟩ := nd
  show Calls Tryz.prog 49 #[.agg #[.int .i64 kd, .string nm, .int .i64 lo, .int .i64 hi, .slice K m c]] w fun e w' => e = .returned (.string (Lex.bytes (if timed kd = true then spanT lo hi else []))) ∧ _
  have HB := Lib.hid ((Below.refl w.heap.size w).alloc (Nat.le_refl _) (.cells #[.int .i64 kd, .string nm, .int .i64 lo, .int .i64 hi, .slice K m c] 42))
  have HT := Lib.hid (fun W (hb : Below w.heap.size w W) => Ival.progText lo hi W (hT.later hb))
  have hgs := guardSpan
  have hsq := fun W => span_eql lo hi 0 (-1) W
  clear hT
  unfold timed
  by_cases h8 : kd < 8
  · rw [if_neg (by rw [decide_eq_true_eq]; omega)]
    go_enter Tryz.func49, Tryz.ntmps49
    go_wp2
    go_ret
    exact ⟨rfl, HB.out⟩
  · by_cases h17 : 17 < kd
    · rw [if_neg (by rw [decide_eq_true_eq]; omega)]
      go_enter Tryz.func49, Tryz.ntmps49
      go_wp2
      go_ret
      exact ⟨rfl, HB.out⟩
    · rw [if_pos (by rw [decide_eq_true_eq]; omega)]
      unfold spanT
      by_cases hs : lo = 0 ∧ hi = -1
      · rw [if_pos hs]
        rw [decide_eq_true hs] at hsq
        clear hs
        go_enter Tryz.func49, Tryz.ntmps49
        go_wp2
        go_ret
        exact ⟨rfl, HB.out⟩
      · rw [if_neg hs, bytes_self]
        rw [decide_eq_false hs] at hsq
        clear hs
        go_enter Tryz.func49, Tryz.ntmps49
        go_wp2_with (go_at_call 67; refine (HT.out _ HB.out).mono ?_; rintro e w' ⟨rfl, hb⟩)
        go_ret
        exact ⟨rfl, HB.out.trans (hb.mono HB.out.size)⟩

/-- What is said of a kind, with its interval. -/
def wordW (n : Nd) : List UInt8 := strTab.getD n.kind.toNat [] ++ spanW n
/-- What a node writes ahead of its kids, between them, behind them. -/
def ownA (n : Nd) : List UInt8 := if n.kind = 3 then n.name.data.toList else if 8 ≤ n.kind ∧ n.kind ≤ 13 then wordW n ++ [32] else if n.kind = 16 ∨ n.kind = 17 then wordW n ++ [32, 123] else if n.kind = 22 ∨ n.kids.length = 2 then [] else wordW n
def ownB (n : Nd) : List UInt8 := if n.kind ≠ 3 ∧ ¬ (8 ≤ n.kind ∧ n.kind ≤ 13) ∧ n.kind ≠ 16 ∧ n.kind ≠ 17 ∧ n.kind ≠ 22 ∧ n.kids.length = 2 then [32] ++ wordW n ++ [32] else []
def ownC (n : Nd) : List UInt8 := if n.kind = 16 ∨ n.kind = 17 then [125] else if n.kind = 22 then wordW n else []
theorem word_short (j : Nat) : (strTab.getD j []).length ≤ 5 := by
  by_cases hj : j < 23
  · have : ∀ j : Fin 23, (strTab.getD j.1 []).length ≤ 5 := by decide
    exact this ⟨j, hj⟩
  · rw [List.getD_eq_getElem?_getD, List.getElem?_eq_none (by show 23 ≤ j; omega)]; exact Nat.zero_le _
theorem wordW_len (n : Nd) : (wordW n).length ≤ 50 := by
  unfold wordW
  have := word_short n.kind.toNat
  have := spanW_len n
  rw [List.length_append]; omega
theorem bytes_plus (a b : List UInt8) : Lex.bytes (a ++ b) = Lex.bytes a ++ Lex.bytes b := by
  apply ByteArray.ext
  apply Array.toList_inj.1
  simp [Lex.bytes]
theorem bytes_size (l : List UInt8) : (Lex.bytes l).size = l.length := rfl
set_option maxHeartbeats 16000000 in
set_option maxRecDepth 100000 in
theorem landOwn (nd : Nd) (K : Option Addr) (m c : Nat) (w : World) (hT : Tabs w) (hk : 1 ≤ nd.kind ∧ nd.kind ≤ 22) (hm : nd.kids.length = m) (hm2 : m ≤ 2) :
    Calls Tryz.prog 31 #[.agg #[.int .i64 nd.kind, .string nd.name, .int .i64 nd.lo, .int .i64 nd.hi, .slice K m c]] w fun e w' =>
      e = .returned (.tuple #[.string (Lex.bytes (ownA nd)), .string (Lex.bytes (ownB nd)), .string (Lex.bytes (ownC nd))]) ∧ Below w.heap.size w w' := by
  have HSP := Lib.hid (fun W (hW : Tab10 W) => landSpanText nd K m c W hW)
  obtain ⟨k, hkk⟩ : ∃ k : Nat, nd.kind = (k : Int) := ⟨nd.kind.toNat, by omega⟩
  have hk23 : k < 23 := by omega
  have hwsz := word_short k
  have hssz := spanW_len nd
  have hW1 : Lex.bytes (wordW nd) = Lex.bytes (strTab.getD k []) ++ Lex.bytes (spanW nd) := by unfold wordW; rw [bytes_plus, hkk, Int.toNat_natCast]
  obtain ⟨WD, hWD⟩ : ∃ WD, Lex.bytes (strTab.getD k []) = WD := ⟨_, rfl⟩
  obtain ⟨SP, hSP⟩ : ∃ SP, Lex.bytes (spanW nd) = SP := ⟨_, rfl⟩
  have z1 : WD.size ≤ 5 := by rw [← hWD, bytes_size]; exact hwsz
  have z2 : SP.size ≤ 45 := by rw [← hSP, bytes_size]; exact hssz
  rw [hWD, hSP] at hW1
  rw [hSP] at HSP
  have HW := Lib.hid hW1
  have y1 : ¬ 9223372036854775807 < WD.size + SP.size := by omega
  have y2 : ¬ 9223372036854775807 < WD.size + SP.size + 1 := by omega
  have y3 : ¬ 9223372036854775807 < WD.size + SP.size + 2 := by omega
  have y4 : ¬ 9223372036854775807 < 1 + (WD.size + SP.size) := by omega
  have y5 : ¬ 9223372036854775807 < 1 + (WD.size + SP.size) + 1 := by omega
  have HCW := Lib.hid (fun W (hb : Below w.heap.size w W) => by have := (hT.later hb).2.cell (i := k) hk23; rw [hWD] at this; exact this)
  have HT1 := Lib.hid (fun W (hb : Below w.heap.size w W) => (hT.later hb).1)
  clear hT hwsz hssz hW1 hWD hSP z1 z2
  obtain ⟨kd, nm, lo, hi, ks⟩ := nd
  have e0 : (⟨kd, nm, lo, hi, ks⟩ : Nd).kind = kd := rfl
  have e1 : (⟨kd, nm, lo, hi, ks⟩ : Nd).name = nm := rfl
  have e2 : (⟨kd, nm, lo, hi, ks⟩ : Nd).lo = lo := rfl
  have e3 : (⟨kd, nm, lo, hi, ks⟩ : Nd).hi = hi := rfl
  have e4 : (⟨kd, nm, lo, hi, ks⟩ : Nd).kids = ks := rfl
  rw [e0] at hk hkk
  rw [e4] at hm
  rw [e0, e1, e2, e3] at HSP
  rw [e0, e1, e2, e3]
  obtain ⟨oA, hA⟩ : ∃ x, ownA ⟨kd, nm, lo, hi, ks⟩ = x := ⟨_, rfl⟩
  obtain ⟨oB, hB⟩ : ∃ x, ownB ⟨kd, nm, lo, hi, ks⟩ = x := ⟨_, rfl⟩
  obtain ⟨oC, hC⟩ : ∃ x, ownC ⟨kd, nm, lo, hi, ks⟩ = x := ⟨_, rfl⟩
  rw [hA, hB, hC]
  unfold ownA at hA
  unfold ownB at hB
  unfold ownC at hC
  rw [e0, e1, e4] at hA
  rw [e0, e4] at hB
  rw [e0] at hC
  obtain ⟨wl, hwl⟩ : ∃ wl, wordW ⟨kd, nm, lo, hi, ks⟩ = wl := ⟨_, rfl⟩
  rw [hwl] at HW hA hB hC
  rw [hm] at hA hB
  have HA := Lib.hid hA
  have HBB := Lib.hid hB
  have HC := Lib.hid hC
  clear e0 e1 e2 e3 e4 hwl hA hB hC hm
  have hb0 : Below w.heap.size w (w.alloc (.cells #[.int .i64 kd, .string nm, .int .i64 lo, .int .i64 hi, .slice K m c] 42)) := (Below.refl w.heap.size w).alloc (Nat.le_refl _) _
  have HB := Lib.hid hb0
  have x0 : (w.alloc (.cells #[.int .i64 kd, .string nm, .int .i64 lo, .int .i64 hi, .slice K m c] 42)).cell? ⟨w.heap.size, 0, none⟩ = some (.int .i64 kd) := box_cell (Below.refl _ _) 0 _ rfl
  have x1 : (w.alloc (.cells #[.int .i64 kd, .string nm, .int .i64 lo, .int .i64 hi, .slice K m c] 42)).cell? ⟨w.heap.size, 1, none⟩ = some (.string nm) := box_cell (Below.refl _ _) 1 _ rfl
  have x4 : (w.alloc (.cells #[.int .i64 kd, .string nm, .int .i64 lo, .int .i64 hi, .slice K m c] 42)).cell? ⟨w.heap.size, 4, none⟩ = some (.slice K m c) := box_cell (Below.refl _ _) 4 _ rfl
  have cw := HCW.out _ hb0
  have hm64 : (m : Int) ≤ 2 := by omega
  have hm0 : (0 : Int) ≤ (m : Int) := by omega
  have HX := Lib.hid (show ∀ w4, Below (w.alloc (.cells #[.int .i64 kd, .string nm, .int .i64 lo, .int .i64 hi, .slice K m c] 42)).heap.size (w.alloc (.cells #[.int .i64 kd, .string nm, .int .i64 lo, .int .i64 hi, .slice K m c] 42)) w4 →
      w4.cell? ⟨0, k, none⟩ = some (.string WD) ∧ w4.cell? ⟨w.heap.size, 0, none⟩ = some (.int .i64 kd) ∧ w4.cell? ⟨w.heap.size, 1, none⟩ = some (.string nm) ∧ w4.cell? ⟨w.heap.size, 4, none⟩ = some (.slice K m c) from
    fun w4 hb => ⟨below_cell hb cw, below_cell hb x0, below_cell hb x1, below_cell hb x4⟩)
  have HF := Lib.hid (show ∀ w4, Below (w.alloc (.cells #[.int .i64 kd, .string nm, .int .i64 lo, .int .i64 hi, .slice K m c] 42)).heap.size (w.alloc (.cells #[.int .i64 kd, .string nm, .int .i64 lo, .int .i64 hi, .slice K m c] 42)) w4 → Below (w.alloc (.cells #[.int .i64 kd, .string nm, .int .i64 lo, .int .i64 hi, .slice K m c] 42)).heap.size (w.alloc (.cells #[.int .i64 kd, .string nm, .int .i64 lo, .int .i64 hi, .slice K m c] 42)) w4 from fun _ h => h)
  clear HCW
  have hways : kd = 3 ∨ (kd = 8 ∨ kd = 9 ∨ kd = 10 ∨ kd = 11 ∨ kd = 12 ∨ kd = 13) ∨ (kd = 16 ∨ kd = 17) ∨ kd = 22 ∨ (kd ≠ 3 ∧ ¬ (8 ≤ kd ∧ kd ≤ 13) ∧ kd ≠ 16 ∧ kd ≠ 17 ∧ kd ≠ 22) := by omega
  rcases hways with h3 | h8 | h16 | h22 | ⟨n3, n8, n16, n17, n22⟩
  · have EA := Lib.hid (show oA = nm.data.toList by rw [← HA.out, if_pos h3])
    have EB := Lib.hid (show oB = [] by rw [← HBB.out, if_neg (fun h => h.1 h3)])
    have EC := Lib.hid (show oC = [] by rw [← HC.out, if_neg (by omega), if_neg (by omega)])
    subst h3
    obtain rfl : k = 3 := by omega
    clear hk hkk hk23 hb0
    go_enter Tryz.func31, Tryz.ntmps31
    go_wp2_with fail
    go_region_with (go_at_call 49; refine (HSP.out _ (HT1.out _ (by first | exact HB.out | exact HB.out.drew))).mono ?_; rintro e w4 ⟨rfl, hb4⟩; have hb5 := HF.out w4 (by first | exact hb4 | exact (Below.refl _ _).drew.trans hb4); obtain ⟨d0, d1, d2, d3⟩ := HX.out w4 hb5)
    all_goals
      go_wp2_with fail
      go_ret3
      exact ⟨by rw [EA.out, EB.out, EC.out, bytes_self]; rfl, HB.out.trans (hb5.mono HB.out.size)⟩
  · have EA := Lib.hid (show oA = wl ++ [32] by rw [← HA.out, if_neg (by omega), if_pos (by omega)])
    have EB := Lib.hid (show oB = [] by rw [← HBB.out, if_neg (fun h => h.2.1 (by omega))])
    have EC := Lib.hid (show oC = [] by rw [← HC.out, if_neg (by omega), if_neg (by omega)])
    rcases h8 with rfl | rfl | rfl | rfl | rfl | rfl
    · obtain rfl : k = 8 := by omega
      clear hk hkk hk23 hb0
      go_enter Tryz.func31, Tryz.ntmps31
      go_wp2_with fail
      go_region_with (go_at_call 49; refine (HSP.out _ (HT1.out _ (by first | exact HB.out | exact HB.out.drew))).mono ?_; rintro e w4 ⟨rfl, hb4⟩; have hb5 := HF.out w4 (by first | exact hb4 | exact (Below.refl _ _).drew.trans hb4); obtain ⟨d0, d1, d2, d3⟩ := HX.out w4 hb5)
      all_goals
        go_wp2_with fail
        go_ret3
        exact ⟨by rw [EA.out, EB.out, EC.out, bytes_plus, HW.out]; rfl, HB.out.trans (hb5.mono HB.out.size)⟩
    · obtain rfl : k = 9 := by omega
      clear hk hkk hk23 hb0
      go_enter Tryz.func31, Tryz.ntmps31
      go_wp2_with fail
      go_region_with (go_at_call 49; refine (HSP.out _ (HT1.out _ (by first | exact HB.out | exact HB.out.drew))).mono ?_; rintro e w4 ⟨rfl, hb4⟩; have hb5 := HF.out w4 (by first | exact hb4 | exact (Below.refl _ _).drew.trans hb4); obtain ⟨d0, d1, d2, d3⟩ := HX.out w4 hb5)
      all_goals
        go_wp2_with fail
        go_ret3
        exact ⟨by rw [EA.out, EB.out, EC.out, bytes_plus, HW.out]; rfl, HB.out.trans (hb5.mono HB.out.size)⟩
    · obtain rfl : k = 10 := by omega
      clear hk hkk hk23 hb0
      go_enter Tryz.func31, Tryz.ntmps31
      go_wp2_with fail
      go_region_with (go_at_call 49; refine (HSP.out _ (HT1.out _ (by first | exact HB.out | exact HB.out.drew))).mono ?_; rintro e w4 ⟨rfl, hb4⟩; have hb5 := HF.out w4 (by first | exact hb4 | exact (Below.refl _ _).drew.trans hb4); obtain ⟨d0, d1, d2, d3⟩ := HX.out w4 hb5)
      all_goals
        go_wp2_with fail
        go_ret3
        exact ⟨by rw [EA.out, EB.out, EC.out, bytes_plus, HW.out]; rfl, HB.out.trans (hb5.mono HB.out.size)⟩
    · obtain rfl : k = 11 := by omega
      clear hk hkk hk23 hb0
      go_enter Tryz.func31, Tryz.ntmps31
      go_wp2_with fail
      go_region_with (go_at_call 49; refine (HSP.out _ (HT1.out _ (by first | exact HB.out | exact HB.out.drew))).mono ?_; rintro e w4 ⟨rfl, hb4⟩; have hb5 := HF.out w4 (by first | exact hb4 | exact (Below.refl _ _).drew.trans hb4); obtain ⟨d0, d1, d2, d3⟩ := HX.out w4 hb5)
      all_goals
        go_wp2_with fail
        go_ret3
        exact ⟨by rw [EA.out, EB.out, EC.out, bytes_plus, HW.out]; rfl, HB.out.trans (hb5.mono HB.out.size)⟩
    · obtain rfl : k = 12 := by omega
      clear hk hkk hk23 hb0
      go_enter Tryz.func31, Tryz.ntmps31
      go_wp2_with fail
      go_region_with (go_at_call 49; refine (HSP.out _ (HT1.out _ (by first | exact HB.out | exact HB.out.drew))).mono ?_; rintro e w4 ⟨rfl, hb4⟩; have hb5 := HF.out w4 (by first | exact hb4 | exact (Below.refl _ _).drew.trans hb4); obtain ⟨d0, d1, d2, d3⟩ := HX.out w4 hb5)
      all_goals
        go_wp2_with fail
        go_ret3
        exact ⟨by rw [EA.out, EB.out, EC.out, bytes_plus, HW.out]; rfl, HB.out.trans (hb5.mono HB.out.size)⟩
    · obtain rfl : k = 13 := by omega
      clear hk hkk hk23 hb0
      go_enter Tryz.func31, Tryz.ntmps31
      go_wp2_with fail
      go_region_with (go_at_call 49; refine (HSP.out _ (HT1.out _ (by first | exact HB.out | exact HB.out.drew))).mono ?_; rintro e w4 ⟨rfl, hb4⟩; have hb5 := HF.out w4 (by first | exact hb4 | exact (Below.refl _ _).drew.trans hb4); obtain ⟨d0, d1, d2, d3⟩ := HX.out w4 hb5)
      all_goals
        go_wp2_with fail
        go_ret3
        exact ⟨by rw [EA.out, EB.out, EC.out, bytes_plus, HW.out]; rfl, HB.out.trans (hb5.mono HB.out.size)⟩
  · have EA := Lib.hid (show oA = wl ++ [32, 123] by rw [← HA.out, if_neg (by omega), if_neg (by omega), if_pos (by omega)])
    have EB := Lib.hid (show oB = [] by rw [← HBB.out, if_neg (fun h => by omega)])
    have EC := Lib.hid (show oC = [125] by rw [← HC.out, if_pos (by omega)])
    rcases h16 with rfl | rfl
    · obtain rfl : k = 16 := by omega
      clear hk hkk hk23 hb0
      go_enter Tryz.func31, Tryz.ntmps31
      go_wp2_with fail
      go_region_with (go_at_call 49; refine (HSP.out _ (HT1.out _ (by first | exact HB.out | exact HB.out.drew))).mono ?_; rintro e w4 ⟨rfl, hb4⟩; have hb5 := HF.out w4 (by first | exact hb4 | exact (Below.refl _ _).drew.trans hb4); obtain ⟨d0, d1, d2, d3⟩ := HX.out w4 hb5)
      all_goals
        go_wp2_with fail
        go_ret3
        exact ⟨by rw [EA.out, EB.out, EC.out, bytes_plus, HW.out]; rfl, HB.out.trans (hb5.mono HB.out.size)⟩
    · obtain rfl : k = 17 := by omega
      clear hk hkk hk23 hb0
      go_enter Tryz.func31, Tryz.ntmps31
      go_wp2_with fail
      go_region_with (go_at_call 49; refine (HSP.out _ (HT1.out _ (by first | exact HB.out | exact HB.out.drew))).mono ?_; rintro e w4 ⟨rfl, hb4⟩; have hb5 := HF.out w4 (by first | exact hb4 | exact (Below.refl _ _).drew.trans hb4); obtain ⟨d0, d1, d2, d3⟩ := HX.out w4 hb5)
      all_goals
        go_wp2_with fail
        go_ret3
        exact ⟨by rw [EA.out, EB.out, EC.out, bytes_plus, HW.out]; rfl, HB.out.trans (hb5.mono HB.out.size)⟩
  · have EA := Lib.hid (show oA = [] by rw [← HA.out, if_neg (by omega), if_neg (by omega), if_neg (by omega), if_pos (Or.inl h22)])
    have EB := Lib.hid (show oB = [] by rw [← HBB.out, if_neg (fun h => by omega)])
    have EC := Lib.hid (show oC = wl by rw [← HC.out, if_neg (by omega), if_pos h22])
    subst h22
    obtain rfl : k = 22 := by omega
    clear hk hkk hk23 hb0
    go_enter Tryz.func31, Tryz.ntmps31
    go_wp2_with fail
    go_region_with (go_at_call 49; refine (HSP.out _ (HT1.out _ (by first | exact HB.out | exact HB.out.drew))).mono ?_; rintro e w4 ⟨rfl, hb4⟩; have hb5 := HF.out w4 (by first | exact hb4 | exact (Below.refl _ _).drew.trans hb4); obtain ⟨d0, d1, d2, d3⟩ := HX.out w4 hb5)
    all_goals
      go_wp2_with fail
      go_ret3
      exact ⟨by rw [EA.out, EB.out, EC.out, HW.out]; rfl, HB.out.trans (hb5.mono HB.out.size)⟩
  · subst hkk
    have a3 : ((k : Int) == 3) = false := beq_eq_false_iff_ne.2 n3
    have a8 : ((k : Int) == 8) = false := beq_eq_false_iff_ne.2 (by omega)
    have a9 : ((k : Int) == 9) = false := beq_eq_false_iff_ne.2 (by omega)
    have a10 : ((k : Int) == 10) = false := beq_eq_false_iff_ne.2 (by omega)
    have a11 : ((k : Int) == 11) = false := beq_eq_false_iff_ne.2 (by omega)
    have a12 : ((k : Int) == 12) = false := beq_eq_false_iff_ne.2 (by omega)
    have a13 : ((k : Int) == 13) = false := beq_eq_false_iff_ne.2 (by omega)
    have a16 : ((k : Int) == 16) = false := beq_eq_false_iff_ne.2 n16
    have a17 : ((k : Int) == 17) = false := beq_eq_false_iff_ne.2 n17
    have a22 : ((k : Int) == 22) = false := beq_eq_false_iff_ne.2 n22
    have k0 : (0 : Int) ≤ (k : Int) := by omega
    have k22 : (k : Int) < 23 := by omega
    by_cases h2 : m = 2
    · have EA := Lib.hid (show oA = [] by rw [← HA.out, if_neg n3, if_neg n8, if_neg (by omega), if_pos (Or.inr h2)])
      have EB := Lib.hid (show oB = [32] ++ wl ++ [32] by rw [← HBB.out, if_pos ⟨n3, n8, n16, n17, n22, h2⟩])
      have EC := Lib.hid (show oC = [] by rw [← HC.out, if_neg (by omega), if_neg n22])
      subst h2
      clear hk n3 n8 n16 n17 n22 hb0
      go_enter Tryz.func31, Tryz.ntmps31
      go_wp2_with fail
      go_region_with (go_at_call 49; refine (HSP.out _ (HT1.out _ (by first | exact HB.out | exact HB.out.drew))).mono ?_; rintro e w4 ⟨rfl, hb4⟩; have hb5 := HF.out w4 (by first | exact hb4 | exact (Below.refl _ _).drew.trans hb4); obtain ⟨d0, d1, d2, d3⟩ := HX.out w4 hb5)
      all_goals
        go_wp2_with fail
        go_ret3
        exact ⟨by rw [EA.out, EB.out, EC.out, bytes_plus, bytes_plus, HW.out]; rfl, HB.out.trans (hb5.mono HB.out.size)⟩
    · have EA := Lib.hid (show oA = wl by rw [← HA.out, if_neg n3, if_neg n8, if_neg (by omega), if_neg (by omega)])
      have EB := Lib.hid (show oB = [] by rw [← HBB.out, if_neg (fun h => by omega)])
      have EC := Lib.hid (show oC = [] by rw [← HC.out, if_neg (by omega), if_neg n22])
      have b2 : ((m : Int) == 2) = false := beq_eq_false_iff_ne.2 (by omega)
      have b3 : (m == 2) = false := beq_eq_false_iff_ne.2 h2
      clear hk n3 n8 n16 n17 n22 hb0 h2
      go_enter Tryz.func31, Tryz.ntmps31
      go_wp2_with fail
      go_region_with (go_at_call 49; refine (HSP.out _ (HT1.out _ (by first | exact HB.out | exact HB.out.drew))).mono ?_; rintro e w4 ⟨rfl, hb4⟩; have hb5 := HF.out w4 (by first | exact hb4 | exact (Below.refl _ _).drew.trans hb4); obtain ⟨d0, d1, d2, d3⟩ := HX.out w4 hb5)
      all_goals
        go_wp2_with fail
        go_ret3
        exact ⟨by rw [EA.out, EB.out, EC.out, HW.out]; rfl, HB.out.trans (hb5.mono HB.out.size)⟩
end Go.Proofs.YthcbgneoonekkaaGreatDoor.Show
