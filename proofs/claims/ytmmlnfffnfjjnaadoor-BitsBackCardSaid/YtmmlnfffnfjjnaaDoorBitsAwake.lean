/-
  The walk of awake: sets that every program must know. By an AI agent.
-/
import Derived.Test.YtmmlnfffnfjjnaaDoorBitsOf
import Derived.Test.YtmmlnfffnfjjnaaDoorBitsList
namespace Go.Proofs.YtmmlnfffnfjjnaaDoor.BitsWalks
open Go.RowKit Go.Proofs.YtmmlnfffnfjjnaaDoor.Ints Go.Proofs.YtmmlnfffnfjjnaaDoor.Words Go.Proofs.YtmmlnfffnfjjnaaDoor.RdW

theorem five : IsSet [5] (ofI [0, 2, -1]) := by
  refine ⟨fun j => ?_, fun _ => by decide, fun k => ?_⟩
  · match j with
    | 0 => decide
    | j + 1 => simp
  · by_cases h : k < 64
    · have all : ∀ k, k < 64 → has [5] k = ofI [0, 2, -1] k := by decide
      exact all k h
    · have e1 : has [5] k = false := by
        unfold has
        rw [out_getD (by simp; omega)]
        simp
      have e2 : ofI [0, 2, -1] k = false := by
        unfold ofI
        rw [decide_eq_false_iff_not]
        rintro ⟨_, h2⟩
        simp at h2
        omega
      rw [e1, e2]

section
variable (A B : Option Addr) (n c m d : Nat) (xs ys : List Nat) (zs us : List Int) (w : World)
theorem sameTrue (hn : n ≤ maxLen) (h : RdW w A n xs) (h' : RdW w B m ys) (he : xs = ys) :
    Calls Tryd.prog 10 #[.slice A n c, .slice B m d] w fun e w' => e = .returned (.bool true) ∧ ∃ q, w' = w.drewN q := by
  have hc := sameWords A B n c m d xs ys w hn h h'
  rwa [show decide (xs = ys) = true by rw [decide_eq_true_iff]; exact he] at hc
theorem equalTrue (hn : n ≤ maxLen) (h : Rd .i64 w A n zs) (h' : Rd .i64 w B m us) (he : zs = us) :
    Calls Tryd.prog 14 #[.slice A n c, .slice B m d] w fun e w' => e = .returned (.bool true) ∧ ∃ q, w' = w.drewN q := by
  have hc := equalInts A B n c m d zs us w hn h h'
  rwa [show decide (zs = us) = true by rw [decide_eq_true_iff]; exact he] at hc
end
theorem RdW.alloc {w : World} {A : Option Addr} {n : Nat} {xs : List Nat} (h : RdW w A n xs) (o : Obj) : RdW (w.alloc o) A n xs := Rd.alloc h o
theorem lit5 (w : World) : RdW (w.alloc (.cells #[.int .u64 5] 39 (0, 0))) (some ⟨w.heap.size, 0, none⟩) 1 [5] := Rd.lit w 39 (0, 0) [(5 : Int)] (by decide)
theorem lit01 (w : World) : RdW (w.alloc (.cells #[.int .u64 0, .int .u64 1] 39 (0, 0))) (some ⟨w.heap.size, 0, none⟩) 2 [0, 1] := Rd.lit w 39 (0, 0) [(0 : Int), 1] (by decide)
theorem list01 : ints (elems 0 [0, 1]) = [64] := by decide
set_option maxHeartbeats 1000000 in
theorem awake (w : World) (hT : Tab w) :
    Calls Tryd.prog 8 #[] w fun e w' => e = .returned (.bool true) ∧ Below w.heap.size w w' := by
  have hz1 : ∀ z ∈ [(0 : Int), 2, -1], (Lit.int .i64 z).wf = true := by decide
  have hz2 : ∀ z ∈ [(64 : Int)], (Lit.int .i64 z).wf = true := by decide
  have HZ1 := Lib.hid hz1
  have HZ2 := Lib.hid hz2
  clear hz1 hz2
  go_enter Tryd.func8, Tryd.ntmps8
  go_wp2_with fail
  refine (of_ _ 3 3 [0, 2, -1] _ (by decide) (Rd.lit w 3 (0, 0) [0, 2, -1] HZ1.out)).mono ?_
  rintro e w1 ⟨D, nD, cD, us, rfl, hs, hr, hnc, hcm, _, hb⟩
  have hus : us = [5] := set_ext hs five
  have hB1 : Below w.heap.size w w1 := ((Below.refl _ _).alloc (Nat.le_refl _) _).trans (hb.mono (by simp))
  clear hs hb
  go_wp2_with fail
  refine (sameTrue D _ nD cD 1 1 us [5] _ (by omega) (RdW.alloc hr _) (lit5 w1) hus).mono ?_
  rintro e w2 ⟨rfl, q, rfl⟩
  clear hr hus
  have hB2 := below_drewN (hB1.alloc hB1.size (.cells #[.int .u64 5] 39 (0, 0))) q
  generalize hw2 : (w1.alloc (.cells #[.int .u64 5] 39 (0, 0))).drewN q = w2 at hB2 ⊢
  clear hw2 hB1
  go_wp2_with fail
  have hB3 := hB2.alloc hB2.size (.cells #[.int .u64 0, .int .u64 1] 39 (0, 0))
  refine (list_ _ 2 2 [0, 1] _ (by omega) (lit01 w2) (hT.later hB3)).mono ?_
  rintro e w3 ⟨E, nE, cE, rfl, hnE, hrE, h1, h2, hb⟩
  clear hnE
  rw [list01] at hrE
  have hB4 := hB3.trans (hb.mono hB3.size)
  clear hb hB3 hB2
  go_wp2_with fail
  refine (equalTrue E _ nE cE 1 1 [64] [64] _ (Nat.le_trans h1 h2) (hrE.alloc _) (Rd.lit w3 3 (0, 0) [64] HZ2.out) rfl).mono ?_
  rintro e w4 ⟨rfl, q2, rfl⟩
  have hB5 := below_drewN (hB4.alloc hB4.size (.cells #[.int .i64 64] 3 (0, 0))) q2
  have HB := Lib.hid hB5
  clear hB4 hB5
  go_wp2
  go_ret
  exact ⟨rfl, HB.out⟩
end Go.Proofs.YtmmlnfffnfjjnaaDoor.BitsWalks
