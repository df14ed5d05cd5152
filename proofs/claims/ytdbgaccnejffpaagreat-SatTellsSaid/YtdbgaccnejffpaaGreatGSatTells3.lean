/-
  The landed counted, some, all (stage 15): at how many points before one a formula holds; stretches of points. By an AI agent.
  The landed some and all (stage 15): does a formula hold somewhere, everywhere, on stretches of points? By an AI agent.
  The landed each, sort.Search: any function value that is handed in (stage 15). By an AI agent.
  Intervals of time in plain arithmetic, and the walk of the reference's MaySpan. By an AI agent.
  Formulas and regular expressions as trees; what holds of them between two points of a trace (stage 15). By an AI agent.
-/
import Derived.Test.YtdbgaccnejffpaaGreatGSatTells2
import Derived.Test.YtdbgaccnejffpaaGreatGSatTells1
import Derived.Test.YtdbgaccnejffpaaGreatChecked
import Derived.WalkKit
import Derived.WalkSpells
import Derived.WalkLawsBesides
import Derived.Below
import Derived.Lib.Hide
import Derived.Lib.MinMax
import Derived.IntWalk
namespace Go.Proofs.YtdbgaccnejffpaaGreat.Sat
open Go.RowKit Go.Proofs.YtdbgaccnejffpaaGreat.Ints Go.Proofs.YtdbgaccnejffpaaGreat.Mem Go.Proofs.YtdbgaccnejffpaaGreat.Src Go.Proofs.YtdbgaccnejffpaaGreat.Paths
theorem infoI64 : (Tryz.prog.info? 3).map (fun i => (i.zero, i.size, i.bytes)) = some (some (.int .i64 0), 1, 8) := by kernel_rfl
theorem made_i64 (n : Nat) : (madeCells (Value.int .i64 0).cells (n * 1)).toList = List.replicate n (.int .i64 0) := by
 rw [Nat.mul_one]
 have e : (Value.int .i64 0).cells = #[.int .i64 0] := rfl
 rw [e]
 apply List.ext_getElem
 ·simp [madeCells]
 ·intro i h1 h2
  simp [madeCells, Nat.mod_one]
def il (n : Nat) (g : Nat → Nat) : List Value := (List.range n).map fun j => .int .i64 ((g j : Nat) : Int)
theorem il_len (n : Nat) (g : Nat → Nat) : (il n g).length = n := by simp [il]
theorem il_at {n j : Nat} {g : Nat → Nat} (h : j < n) : (il n g)[j]? = some (.int .i64 ((g j : Nat) : Int)) := by
 unfold il
 rw [List.getElem?_map, List.getElem?_range h]
 rfl
theorem il_congr {n : Nat} {f g : Nat → Nat} (h : ∀ j, j < n → f j = g j) : il n f = il n g := by
 unfold il
 exact List.map_congr_left fun j hj => by rw [h j (List.mem_range.1 hj)]
theorem il_set {n i x : Nat} {g g' : Nat → Nat} (hi : i < n) (hx : g' i = x) (h : ∀ j, j < n → j ≠ i → g' j = g j) : (il n g).set i (.int .i64 ((x : Nat) : Int)) = il n g' := by
 apply List.ext_getElem?
 intro a
 rw [List.getElem?_set, il_len]
 by_cases ha : a < n
 ·rw [il_at ha, il_at ha]
  by_cases e : i = a
  ·subst e
   rw [if_pos rfl, if_pos ha, hx]
  ·rw [if_neg e, h a ha (fun e2 => e e2.symm)]
 ·rw [List.getElem?_eq_none (l := il n g') (by rw [il_len]; omega)]
  by_cases e : i = a
  ·rw [if_pos e, if_neg (by omega)]
  ·rw [if_neg e, List.getElem?_eq_none (by rw [il_len]; omega)]
theorem il_zero (n : Nat) : il n (fun _ => 0) = List.replicate n (.int .i64 0) := by
 unfold il
 rw [List.map_const', List.length_range]
 rfl
def OI (w : World) (lo b n : Nat) (g : Nat → Nat) : Prop := w.ownsRow lo 3 1 (.slice (some ⟨b, 0, none⟩) n n) n (il n g)
theorem OI.cell {w : World} {lo b n : Nat} {g : Nat → Nat} (h : OI w lo b n g) {j : Nat} (hj : j < n) : w.cell? ⟨b, j, none⟩ = some (.int .i64 ((g j : Nat) : Int)) := by
 have := World.ownsRow.cells h (g := b) rfl j _ (il_at hj)
 rwa [Addr.add_lit, Nat.zero_add] at this
theorem OI.put {w : World} {lo b n : Nat} {g g' : Nat → Nat} (h : OI w lo b n g) {i x : Nat} (hi : i < n) (hx : g' i = x) (hg : ∀ j, j < n → j ≠ i → g' j = g j) : OI (w.setCell ⟨b, i, none⟩ (.int .i64 ((x : Nat) : Int))) lo b n g' := by
 have h1 := own_put (k := i) h (.int .i64 ((x : Nat) : Int))
 rw [il_set hi hx hg] at h1
 exact h1
def cnt (f : Nat → Bool) : Nat → Nat
 | 0 => 0
 | k + 1 => cnt f k + (if f k = true then 1 else 0)
theorem cnt_le (f : Nat → Bool) (k : Nat) : cnt f k ≤ k := by
 induction k with
 | zero => exact Nat.le_refl _
 | succ k ih => unfold cnt; split <;> omega
theorem cnt_mono (f : Nat → Bool) {a b : Nat} (h : a ≤ b) : cnt f a ≤ cnt f b := by
 induction b with
 | zero => rw [show a = 0 by omega]; exact Nat.le_refl _
 | succ b ih =>
  by_cases e : a = b + 1
  ·rw [e]; exact Nat.le_refl _
  ·have := ih (by omega)
   show _ ≤ cnt f b + _
   omega
theorem cnt_lt (f : Nat → Bool) (a b : Nat) : cnt f a < cnt f b ↔ ∃ j, a ≤ j ∧ j < b ∧ f j = true := by
 constructor
 ·intro h
  refine Classical.byContradiction fun hn => ?_
  have key : ∀ b', b' ≤ b → cnt f b' ≤ cnt f a := by
   intro b'
   induction b' with
   | zero => intro _; exact Nat.zero_le _
   | succ q ih =>
    intro hq
    by_cases hqa : q < a
    ·exact cnt_mono f (by omega)
    ·have h1 := ih (by omega)
     show cnt f q + _ ≤ _
     rw [if_neg (fun e => hn ⟨q, by omega, by omega, e⟩)]
     exact h1
  have := key b (Nat.le_refl _)
  omega
 ·rintro ⟨j, h1, h2, h3⟩
  have a1 := cnt_mono f h1
  have a2 := cnt_mono f (show j + 1 ≤ b by omega)
  have a3 : cnt f (j + 1) = cnt f j + 1 := by show cnt f j + (if f j = true then 1 else 0) = _; rw [if_pos h3]
  omega
def cntTo (f : Nat → Bool) (i j : Nat) : Nat := if j ≤ i then cnt f j else 0
theorem cntTo_zero (f : Nat → Bool) (j : Nat) : cntTo f 0 j = 0 := by
 unfold cntTo
 by_cases h : j ≤ 0
 ·rw [if_pos h, show j = 0 by omega]; rfl
 ·rw [if_neg h]
set_option maxHeartbeats 8000000 in
set_option maxRecDepth 100000 in
theorem landCounted (b n : Nat) (f : Nat → Bool) (w : World) (h : RB w b n f) (hn : n ≤ 1000) :
  Calls Tryz.prog 79 #[.slice (some ⟨b, 0, none⟩) n n] w fun e w' => ∃ g, e = .returned (.slice (some ⟨g, 0, none⟩) (n + 1 : Nat) (n + 1 : Nat)) ∧ OI w' w.heap.size g (n + 1) (cnt f) ∧ Below w.heap.size w w' := by
 have q63 : maxLen = 9223372036854775807 := rfl
 obtain ⟨m, hm⟩ : ∃ m, n + 1 = m := ⟨_, rfl⟩
 rw [hm]
 have hmi : ((n : Nat) : Int) + 1 = ((m : Nat) : Int) := by omega
 obtain ⟨i1, hi1, hy0, hy1, hy2⟩ := info_parts infoI64
 have b2 : i1.bytes * m ≤ 281474976710656 := by rw [hy2]; omega
 have b3 : m ≤ maxLen := by omega
 have H := Lib.hid h
 have HN := Lib.hid hm
 clear h hm
 go_enter Tryz.func79, Tryz.ntmps79
 go_wp2_with (at_make; refine wpList_make_full _ rfl (.tmp 8) (.tmp 8) 29 rfl w.heap.size 3 i1 (.int .i64 0) 1 Tryz.underlying29 hi1 hy0 hy1 .i64 .i64 _ _ m rfl rfl (by rfl) (by rfl) b2 b3 (Nat.le_refl _) ?_; intro w1 hmade hgr1; rw [made_i64] at hmade)
 have HM := Lib.hid (show OI w1 w.heap.size w.heap.size m (cntTo f 0) from by
  unfold OI
  rw [il_congr (g := fun _ => 0) (fun j _ => cntTo_zero f j), il_zero]
  exact hmade)
 have HG := Lib.hid (show Below w.heap.size w w1 from ⟨hgr1.os, hgr1.tape, hgr1.output, hgr1.size, fun k hk => hgr1.block k hk (by simp)⟩)
 clear hmade hgr1 hmi
 go_loopw [4, 5, 12] (fun _ _ v wr => ∃ i : Nat, v = .int .i64 (i : Nat) ∧ i ≤ n ∧ OI wr w.heap.size w.heap.size m (cntTo f i) ∧ Below w.heap.size w wr) (fun _ _ v _ => n - (intOf v).toNat)
 case atStart => exact ⟨0, rfl, Nat.zero_le _, HM.out, HG.out⟩
 case round =>
  obtain ⟨i, rfl, hin, hO, hB⟩ := hrel
  have HO := Lib.hid hO
  have HB := Lib.hid hB
  by_cases hlt : i < n
  ·have x1 := (H.out.below hB) i hlt
   obtain ⟨k, hk⟩ : ∃ k, i + 1 = k := ⟨_, rfl⟩
   have hki : ((i : Nat) : Int) + 1 = ((k : Nat) : Int) := by omega
   have hkm : k < m := by have := HN.out; omega
   have hkm' : ((k : Nat) : Int) < ((m : Nat) : Int) := by omega
   have hkn : ((k : Nat) : Int) ≤ 1000 := by omega
   have him : ((i : Nat) : Int) < ((m : Nat) : Int) := by omega
   obtain ⟨C, hC⟩ : ∃ C, cnt f i = C := ⟨_, rfl⟩
   have hC1 : C ≤ 1000 := by have := cnt_le f i; omega
   have hCi : ((C : Nat) : Int) ≤ 1000 := by omega
   have c0 := hO.cell (j := i) (by omega)
   rw [show cntTo f i i = C by unfold cntTo; rw [if_pos (Nat.le_refl _), hC]] at c0
   have c1 := hO.cell (j := k) hkm
   have f0 := own_fz hO k
   have HK := Lib.hid (And.intro hk hC)
   have HP := Lib.hid (hO.put (g' := fun j => if j = k then C else cntTo f i j) hkm (if_pos rfl) (fun j _ hj => if_neg hj))
   clear hO hB hk hC
   by_cases hf : f i = true
   ·rw [hf] at x1
    have HF := Lib.hid hf
    clear hf
    go_wp2_with fail
    go_roundw
    case rel =>
     refine ⟨k, by simp, by omega, ?_, (HB.out.setCell (p := ⟨w.heap.size, k, none⟩) (Nat.le_refl _) _).setCell (p := ⟨w.heap.size, k, none⟩) (Nat.le_refl _) _⟩
     refine HP.out.put (x := C + 1) hkm ?_ (fun j hj hne => ?_)
     ·unfold cntTo
      rw [if_pos (Nat.le_refl _), ← HK.out.1]
      show cnt f i + _ = _
      rw [if_pos HF.out, HK.out.2]
     ·show cntTo f k j = if j = k then C else cntTo f i j
      rw [if_neg hne]
      unfold cntTo
      have := HK.out.1
      by_cases e : j ≤ i
      ·rw [if_pos (by omega), if_pos e]
      ·rw [if_neg (by omega), if_neg e]
    case measure => (show n - k < n - i; have := HK.out.1; omega)
   ·have hf : f i = false := by simpa using hf
    rw [hf] at x1
    have HF := Lib.hid hf
    clear hf
    go_wp2_with fail
    go_roundw
    case rel =>
     refine ⟨k, by simp, by omega, ?_, HB.out.setCell (p := ⟨w.heap.size, k, none⟩) (Nat.le_refl _) _⟩
     have h1 := HP.out
     unfold OI at h1 ⊢
     rw [il_congr (g := cntTo f k) (fun j hj => ?_)] at h1
     ·exact h1
     ·show (if j = k then C else cntTo f i j) = cntTo f k j
      have := HK.out.1
      by_cases e1 : j = k
      ·subst e1
       rw [if_pos rfl]
       unfold cntTo
       rw [if_pos (Nat.le_refl _), ← this]
       show _ = cnt f i + _
       rw [if_neg (by rw [HF.out]; decide), HK.out.2]; rfl
      ·rw [if_neg e1]
       unfold cntTo
       by_cases e : j ≤ i
       ·rw [if_pos e, if_pos (by omega)]
       ·rw [if_neg e, if_neg (by omega)]
    case measure => (show n - k < n - i; have := HK.out.1; omega)
  ·obtain rfl : i = n := by omega
   clear hO hB
   go_wp2_with fail
   go_ret
   refine ⟨w.heap.size, rfl, ?_, HB.out⟩
   have h1 := HO.out
   unfold OI at h1 ⊢
   rw [il_congr (g := cnt f) (fun j hj => by unfold cntTo; rw [if_pos (by have := HN.out; omega)])] at h1
   exact h1
end Go.Proofs.YtdbgaccnejffpaaGreat.Sat

namespace Go.Proofs.YtdbgaccnejffpaaGreat.Sat
open Go.RowKit Go.Proofs.YtdbgaccnejffpaaGreat.Ints Go.Proofs.YtdbgaccnejffpaaGreat.Mem Go.Proofs.YtdbgaccnejffpaaGreat.Src Go.Proofs.YtdbgaccnejffpaaGreat.Paths Go.Proofs.YtdbgaccnejffpaaGreat.Late
def RS (w : World) (b n : Nat) (s t : Nat → Nat) : Prop := ∀ j, j < n → w.cell? ⟨b, j * 2, none⟩ = some (.int .i64 ((s j : Nat) : Int)) ∧ w.cell? ⟨b, j * 2 + 1, none⟩ = some (.int .i64 ((t j : Nat) : Int))
theorem RS.below {w w' : World} {b n : Nat} {s t : Nat → Nat} (h : RS w b n s t) (hb : Below w.heap.size w w') : RS w' b n s t := fun j hj => ⟨below_cell hb (h j hj).1, below_cell hb (h j hj).2⟩
def someB (f : Nat → Bool) (s t : Nat → Nat) (i : Nat) : Bool := decide (cnt f (s i) < cnt f (t i))
theorem someB_iff (f : Nat → Bool) (s t : Nat → Nat) (i : Nat) : someB f s t i = true ↔ ∃ j, s i ≤ j ∧ j < t i ∧ f j = true := by
 unfold someB
 rw [decide_eq_true_eq, cnt_lt]
set_option maxHeartbeats 8000000 in
set_option maxRecDepth 100000 in
theorem landSome (b o n : Nat) (f : Nat → Bool) (s t : Nat → Nat) (w : World) (h : RB w b n f) (ho : RS w o n s t) (hs : ∀ j, j < n → s j ≤ n) (ht : ∀ j, j < n → t j ≤ n) (hn : n ≤ 1000) :
  Calls Tryz.prog 43 #[.slice (some ⟨b, 0, none⟩) n n, .slice (some ⟨o, 0, none⟩) n n] w (GotB w n (someB f s t)) := by
 have q63 : maxLen = 9223372036854775807 := rfl
 obtain ⟨i1, hi1, hy0, hy1, hy2⟩ := info_parts infoBl
 have b2 : i1.bytes * n ≤ 281474976710656 := by rw [hy2]; omega
 have b3 : n ≤ maxLen := by omega
 have H := Lib.hid ho
 obtain ⟨m, hm⟩ : ∃ m, n + 1 = m := ⟨_, rfl⟩
 have HC := landCounted b n f w h hn
 rw [hm] at HC
 have HC := Lib.hid HC
 have HS := Lib.hid (And.intro hs ht)
 have HMN := Lib.hid hm
 have hnm : n < m := by omega
 clear h ho hs ht hm
 go_enter Tryz.func43, Tryz.ntmps43
 go_wp2_with fail
 refine HC.out.mono ?_
 rintro e w0 ⟨g, rfl, hg, hb0⟩
 have HB0 := Lib.hid hb0
 have HI := Lib.hid hg
 clear hg hb0 HC
 go_wp2_with (at_make; refine wpList_make_full _ rfl (.tmp 12) (.tmp 12) 32 rfl w.heap.size 4 i1 (.bool false) 1 Tryz.underlying32 hi1 hy0 hy1 .i64 .i64 _ _ n rfl rfl rfl rfl b2 b3 HB0.out.size ?_; intro w1 hmade hgr1; rw [made_bools] at hmade)
 have HM := Lib.hid (show OB w1 w.heap.size w0.heap.size n (upTo 0 (someB f s t)) from by unfold OB; rw [bl_zero]; exact hmade)
 have HG1 := Lib.hid (show Below w0.heap.size w0 w1 from ⟨hgr1.os, hgr1.tape, hgr1.output, hgr1.size, fun k hk => hgr1.block k hk (by simp)⟩)
 have HI1 := Lib.hid (show OI w1 w.heap.size g m (cnt f) from below_row HI.out HG1.out)
 have HG := Lib.hid (HB0.out.trans (HG1.out.mono HB0.out.size))
 have HSZ := Lib.hid (show w.heap.size ≤ w0.heap.size ∧ g < w0.heap.size from ⟨HB0.out.size, (World.ownsRow.lt HI.out g rfl).2⟩)
 clear hmade hgr1
 obtain ⟨R, hR⟩ : ∃ R, w0.heap.size = R := ⟨_, rfl⟩
 rw [hR] at HM HSZ ⊢
 clear HI HB0 HG1 hR
 go_loopw [7, 16] (fun _ v wr => ∃ i : Nat, v = .int .i64 (i : Nat) ∧ i ≤ n ∧ OB wr w.heap.size R n (upTo i (someB f s t)) ∧ OI wr w.heap.size g m (cnt f) ∧ Below w.heap.size w wr) (fun _ v _ => n - (intOf v).toNat)
 case atStart => exact ⟨0, rfl, Nat.zero_le _, HM.out, HI1.out, HG.out⟩
 case round =>
  obtain ⟨i, rfl, hin, hO, hI, hB⟩ := hrel
  have HO := Lib.hid hO
  have HI := Lib.hid hI
  have HB := Lib.hid hB
  by_cases hlt : i < n
  ·obtain ⟨S, hS⟩ : ∃ S, s i = S := ⟨_, rfl⟩
   obtain ⟨T, hT⟩ : ∃ T, t i = T := ⟨_, rfl⟩
   obtain ⟨x1, x2⟩ := (H.out.below hB) i hlt
   rw [hS] at x1
   rw [hT] at x2
   have hSn : S ≤ n := by rw [← hS]; exact HS.out.1 i hlt
   have hTn : T ≤ n := by rw [← hT]; exact HS.out.2 i hlt
   obtain ⟨X, hX⟩ : ∃ X, cnt f S = X := ⟨_, rfl⟩
   obtain ⟨Y, hY⟩ : ∃ Y, cnt f T = Y := ⟨_, rfl⟩
   have c1 := hI.cell (j := S) (by omega)
   have c2 := hI.cell (j := T) (by omega)
   rw [hX] at c1
   rw [hY] at c2
   obtain ⟨W, hW⟩ : ∃ W, wr.alloc (.cells #[.int .i64 ((S : Nat) : Int), .int .i64 ((T : Nat) : Int)] 100) = W := ⟨_, rfl⟩
   have hbW : Below wr.heap.size wr W := by rw [← hW]; exact (Below.refl _ _).alloc (Nat.le_refl _) _
   have HOW := Lib.hid (hO.below hbW)
   have HIW := Lib.hid (show OI W w.heap.size g m (cnt f) from below_row hI hbW)
   have HBW := Lib.hid (hB.trans (hbW.mono hB.size))
   have d1 : W.cell? ⟨wr.heap.size, 0, none⟩ = some (.int .i64 ((S : Nat) : Int)) := by rw [← hW]; exact box_cell 0 _ rfl
   have d2 : W.cell? ⟨wr.heap.size, 1, none⟩ = some (.int .i64 ((T : Nat) : Int)) := by rw [← hW]; exact box_cell 1 _ rfl
   have e1 := below_cell hbW c1
   have e2 := below_cell hbW c2
   have f1 : W.cell? ⟨R, i, none⟩ = some (.bool (upTo i (someB f s t) i)) := (hO.below hbW).rb i hlt
   have f2 : W.frozen? ⟨R, i, none⟩ = false := own_fz (hO.below hbW) i
   have HX := Lib.hid (show decide (X < Y) = someB f s t i from by unfold someB; rw [hS, hT, hX, hY])
   have HXS := Lib.hid (And.intro hX hY)
   have hSi : ((S : Nat) : Int) ≤ ((n : Nat) : Int) := by omega
   have hTi : ((T : Nat) : Int) ≤ ((n : Nat) : Int) := by omega
   have hSi2 : ((S : Nat) : Int) < ((m : Nat) : Int) := by omega
   have hTi2 : ((T : Nat) : Int) < ((m : Nat) : Int) := by omega
   clear hO hI hB hS hT hX hY hbW
   go_wp2_with fail
   refine Late.drew [14] (S := fun V => V.cell? ⟨wr.heap.size, 0, none⟩ = some (.int .i64 ((S : Nat) : Int)) ∧ V.cell? ⟨wr.heap.size, 1, none⟩ = some (.int .i64 ((T : Nat) : Int)) ∧ V.cell? ⟨g, S, none⟩ = some (.int .i64 ((X : Nat) : Int)) ∧ V.cell? ⟨g, T, none⟩ = some (.int .i64 ((Y : Nat) : Int))) (by kernel_rfl) ⟨d1, d2, e1, e2⟩ (fun hHeld => ?_)
   refine ltOp 0 hHeld ?_
   refine ltOp 1 hHeld ?_
   refine ltOp 2 hHeld ?_
   refine ltOp 3 hHeld ?_
   refine ltOp 4 hHeld ?_
   refine ltOp 5 hHeld ?_
   refine ltOp 6 hHeld ?_
   refine ltOp 7 hHeld ?_
   refine ltOp 8 hHeld ?_
   refine ltOp 9 hHeld ?_
   refine ltOp 10 hHeld ?_
   refine ltOp 11 hHeld ?_
   refine ltOp 12 hHeld ?_
   refine ltOp 13 hHeld ?_
   refine ltLast 14 (fun Kt hKt => ?_)
   go_simp
   refine hKt.out _ _ trivial (fun hT => ?_)
   clear hKt Kt hHeld
   have hHeld := hT
   clear hT
   try simp only [Act.put, tkA, tkB, tkC]
   refine wpAnyH_done (by kernel_rfl) ?_ _
   clear hHeld
   go_wp2_with fail
   go_roundw
   case rel =>
    refine ⟨i + 1, by simp, by omega, ?_, ?_, (HBW.out.setCell (p := ⟨R, i, none⟩) HSZ.out.1 _).drew⟩
    ·have h1 := own_put (k := i) HOW.out (.bool (decide (X < Y)))
     rw [bl_set (someB f s t) hlt HX.out] at h1
     exact h1
    ·have h2 : OI (W.setCell ⟨R, i, none⟩ (.bool (decide (X < Y)))) w.heap.size g m (cnt f) := World.ownsRow.kept HIW.out (grown_cell W ⟨R, i, none⟩ _) (.inr (fun e => absurd (show g = R by injection e) (by have := HSZ.out.2; omega)))
     exact h2
   case measure => (show n - (i + 1) < n - i; omega)
  ·obtain rfl : i = n := by omega
   clear hO hB hI
   go_wp2_with fail
   go_ret
   refine ⟨R, rfl, ?_, HB.out⟩
   have h1 := HO.out
   unfold OB at h1
   rw [bl_full] at h1
   exact h1
def allB (f : Nat → Bool) (s t : Nat → Nat) (i : Nat) : Bool := !(someB (fun j => !(f j)) s t i)
theorem allB_iff (f : Nat → Bool) (s t : Nat → Nat) (i : Nat) : allB f s t i = true ↔ ∀ j, s i ≤ j → j < t i → f j = true := by
 unfold allB
 rw [Bool.not_eq_true', Bool.eq_false_iff, Ne, someB_iff]
 constructor
 ·intro h j h1 h2
  cases hf : f j with
  | true => rfl
  | false => exact absurd ⟨j, h1, h2, by rw [hf]; rfl⟩ h
 ·rintro h ⟨j, h1, h2, h3⟩
  rw [h j h1 h2] at h3
  cases h3
set_option maxHeartbeats 8000000 in
set_option maxRecDepth 100000 in
theorem landAllB (b o n : Nat) (f : Nat → Bool) (s t : Nat → Nat) (w : World) (h : RB w b n f) (ho : RS w o n s t) (hs : ∀ j, j < n → s j ≤ n) (ht : ∀ j, j < n → t j ≤ n) (hn : n ≤ 1000) :
  Calls Tryz.prog 45 #[.slice (some ⟨b, 0, none⟩) n n, .slice (some ⟨o, 0, none⟩) n n] w (GotB w n (allB f s t)) := by
 have HN := Lib.hid (landNot b n f w h hn)
 have HS := Lib.hid (fun b1 W (h1 : RB W b1 n (fun j => !(f j))) (hb : Below w.heap.size w W) => landSome b1 o n (fun j => !(f j)) s t W h1 (ho.below hb) hs ht hn)
 have HN2 := Lib.hid (fun b1 W (h1 : RB W b1 n (someB (fun j => !(f j)) s t)) => landNot b1 n _ W h1 hn)
 clear h ho hs ht
 go_enter Tryz.func45, Tryz.ntmps45
 go_wp2_with fail
 refine HN.out.mono ?_
 rintro e w1 ⟨b1, rfl, h1, hb1⟩
 have HB1 := Lib.hid hb1
 have HS1 := Lib.hid (HS.out b1 w1 h1.rb hb1)
 clear h1 hb1
 go_wp2_with fail
 refine HS1.out.mono ?_
 rintro e w2 ⟨b2, rfl, h2, hb2⟩
 have HB2 := Lib.hid (HB1.out.trans (hb2.mono HB1.out.size))
 have HN3 := Lib.hid (HN2.out b2 w2 h2.rb)
 clear h2 hb2
 go_wp2_with fail
 refine HN3.out.mono ?_
 rintro e w3 h3
 obtain ⟨b3, rfl, h4, h5⟩ := h3.after HB2.out
 have HX := Lib.hid (And.intro h4 h5)
 clear h3 h4 h5
 go_wp2_with fail
 go_ret
 exact ⟨b3, rfl, HX.out.1, HX.out.2⟩
end Go.Proofs.YtdbgaccnejffpaaGreat.Sat

namespace Go.Proofs.YtdbgaccnejffpaaGreat.Sat
open Go.RowKit Go.Proofs.YtdbgaccnejffpaaGreat.Ints Go.Proofs.YtdbgaccnejffpaaGreat.Mem Go.Proofs.YtdbgaccnejffpaaGreat.Src Go.Proofs.YtdbgaccnejffpaaGreat.Paths Go.Proofs.YtdbgaccnejffpaaGreat.Late
set_option maxHeartbeats 8000000 in
set_option maxRecDepth 100000 in
theorem landEach (gj n ec g : Nat) (EA : Option Addr) (caps : Array Value) (P : Nat → Bool) (w : World) (hx : w.cell? ⟨gj, 1, none⟩ = some (.slice EA n ec)) (eg : ∀ args w, (callFunc g args).run Tryz.prog w = .ok (.enter g args) w)
  (hc : ∀ i, i < n → ∀ W, Below w.heap.size w W → Calls Tryz.prog g (#[.int .i64 ((i : Nat) : Int)] ++ caps) W fun e W' => e = .returned (.bool (P i)) ∧ Below W.heap.size W W') (hn : n ≤ 1000) :
  Calls Tryz.prog 35 #[.pointer (some ⟨gj, 0, none⟩), .func (.func g) #[] caps] w (GotB w n P) := by
 have q63 : maxLen = 9223372036854775807 := rfl
 obtain ⟨i1, hi1, hy0, hy1, hy2⟩ := info_parts infoBl
 have b2 : i1.bytes * n ≤ 281474976710656 := by rw [hy2]; omega
 have b3 : n ≤ maxLen := by omega
 have HC := Lib.hid hc
 clear hc
 go_enter Tryz.func35, Tryz.ntmps35
 go_wp2_with (at_make; refine wpList_make_full _ rfl (.tmp 11) (.tmp 11) 32 rfl w.heap.size 4 i1 (.bool false) 1 Tryz.underlying32 hi1 hy0 hy1 .i64 .i64 _ _ n rfl rfl rfl rfl b2 b3 (Nat.le_refl _) ?_; intro w1 hmade hgr1; rw [made_bools] at hmade)
 have HM := Lib.hid (show OB w1 w.heap.size w.heap.size n (upTo 0 P) from by unfold OB; rw [bl_zero]; exact hmade)
 have HG := Lib.hid (show Below w.heap.size w w1 from ⟨hgr1.os, hgr1.tape, hgr1.output, hgr1.size, fun k hk => hgr1.block k hk (by simp)⟩)
 clear hmade hgr1 hx
 go_loopw [6, 15] (fun _ v wr => ∃ i : Nat, v = .int .i64 (i : Nat) ∧ i ≤ n ∧ OB wr w.heap.size w.heap.size n (upTo i P) ∧ Below w.heap.size w wr) (fun _ v _ => n - (intOf v).toNat)
 case atStart => exact ⟨0, rfl, Nat.zero_le _, HM.out, HG.out⟩
 case round =>
  obtain ⟨i, rfl, hin, hO, hB⟩ := hrel
  have HO := Lib.hid hO
  have HB := Lib.hid hB
  by_cases hlt : i < n
  ·have HF := Lib.hid (HC.out i hlt wr hB)
   clear hO hB
   go_wp2_with (go_at_fn g; refine HF.out.mono ?_; rintro e w2 ⟨rfl, hb2⟩; have HO2 := Lib.hid (HO.out.below hb2); have c0 := HO2.out.rb i hlt; have f0 := own_fz HO2.out i; have HB2 := Lib.hid (HB.out.trans (hb2.mono HB.out.size)); clear hb2)
   go_roundw
   case rel =>
    refine ⟨i + 1, by simp, by omega, ?_, HB2.out.setCell (p := ⟨w.heap.size, i, none⟩) (Nat.le_refl _) _⟩
    have h1 := own_put (k := i) HO2.out (.bool (P i))
    rw [bl_set P hlt rfl] at h1
    exact h1
   case measure => (show n - (i + 1) < n - i; omega)
  ·obtain rfl : i = n := by omega
   clear hO hB
   go_wp2_with fail
   go_ret
   refine ⟨w.heap.size, rfl, ?_, HB.out⟩
   have h1 := HO.out
   unfold OB at h1
   rw [bl_full] at h1
   exact h1
theorem searchFn_mono {n : Nat} {P : Nat → Bool} (hm : ∀ a b, a ≤ b → b < n → P a = true → P b = true) {a b : Nat} (hab : a ≤ b) (hb : b < n) (h : P b = false) : P a = false := by
 cases ha : P a with
 | false => rfl
 | true => rw [hm a b hab hb ha] at h; cases h
set_option maxHeartbeats 8000000 in
set_option maxRecDepth 100000 in
theorem landSearch (n g : Nat) (caps : Array Value) (P : Nat → Bool) (w : World) (eg : ∀ args w, (callFunc g args).run Tryz.prog w = .ok (.enter g args) w)
  (hc : ∀ i, i < n → ∀ W, Below w.heap.size w W → Calls Tryz.prog g (#[.int .i64 ((i : Nat) : Int)] ++ caps) W fun e W' => e = .returned (.bool (P i)) ∧ Below W.heap.size W W') (hn : n ≤ 1000) (hm : ∀ a b, a ≤ b → b < n → P a = true → P b = true) :
  Calls Tryz.prog 80 #[.int .i64 ((n : Nat) : Int), .func (.func g) #[] caps] w fun e w' => ∃ p, e = .returned (.int .i64 (p : Nat)) ∧ p ≤ n ∧ (∀ j, j < p → P j = false) ∧ (∀ j, p ≤ j → j < n → P j = true) ∧ Below w.heap.size w w' := by
 have HC := Lib.hid hc
 have HM := Lib.hid hm
 have HB0 := Lib.hid (Below.refl w.heap.size w)
 clear hc hm
 go_enter Tryz.func80, Tryz.ntmps80
 go_wp2_with fail
 go_loopw [5, 6] (fun vi vj wr => ∃ i j : Nat, vi = .int .i64 (i : Nat) ∧ vj = .int .i64 (j : Nat) ∧ i ≤ j ∧ j ≤ n ∧ Hid (∀ m, m < i → P m = false) ∧ Hid (∀ m, j ≤ m → m < n → P m = true) ∧ Below w.heap.size w wr) (fun vi vj _ => (intOf vj).toNat - (intOf vi).toNat)
 case atStart => exact ⟨0, n, rfl, rfl, Nat.zero_le _, Nat.le_refl _, Lib.hid (fun m hm => absurd hm (Nat.not_lt_zero _)), Lib.hid (fun m hm h2 => by omega), HB0.out⟩
 case round =>
  obtain ⟨i, j, rfl, rfl, hij, hjn, hlo, hhi, hB⟩ := hrel
  have HB := Lib.hid hB
  by_cases hlt : i < j
  ·obtain ⟨q, hq⟩ : ∃ q, (i + j) / 2 = q := ⟨_, rfl⟩
   have hh : ((i : Int) + (j : Int)) / 2 = (q : Int) := by omega
   have hqi : i ≤ q := by omega
   have hqj : q < j := by omega
   have FC := HC.out q (by omega) wr hB
   clear hq hB
   cases hP : P q
   ·rw [hP] at FC
    have HFC := Lib.hid FC
    have HP := Lib.hid hP
    clear FC hP
    go_wp2_with (go_at_fn g; refine HFC.out.mono ?_; rintro e w1 ⟨rfl, hb1⟩; have HB1 := Lib.hid (HB.out.trans (hb1.mono HB.out.size)); clear hb1)
    go_roundw
    case rel => exact ⟨q + 1, j, by simp, rfl, by omega, hjn, Lib.hid (fun m h1 => searchFn_mono HM.out (show m ≤ q by omega) (by omega) HP.out), hhi, HB1.out⟩
    case measure => (show j - (q + 1) < j - i; omega)
   ·rw [hP] at FC
    have HFC := Lib.hid FC
    have HP := Lib.hid hP
    clear FC hP
    go_wp2_with (go_at_fn g; refine HFC.out.mono ?_; rintro e w1 ⟨rfl, hb1⟩; have HB1 := Lib.hid (HB.out.trans (hb1.mono HB.out.size)); clear hb1)
    go_roundw
    case rel => exact ⟨i, q, rfl, rfl, hqi, by omega, hlo, Lib.hid (fun m h1 h2 => HM.out q m h1 h2 HP.out), HB1.out⟩
    case measure => (show q - i < j - i; omega)
  ·obtain rfl : i = j := by omega
   clear hB
   go_wp2_with fail
   go_ret
   exact ⟨i, rfl, hjn, hlo.out, hhi.out, HB.out⟩
end Go.Proofs.YtdbgaccnejffpaaGreat.Sat

namespace Go.Proofs.YtdbgaccnejffpaaGreat.Ival
open Go.RowKit
def mayS (lo hi : Int) : Bool := decide (0 ≤ lo ∧ lo ≤ 9999 ∧ (hi = -1 ∨ (lo ≤ hi ∧ hi ≤ 9999)))
def hasS (lo hi : Int) (d : Nat) : Bool := mayS lo hi && decide (lo ≤ d ∧ (hi = -1 ∨ (d : Int) ≤ hi))
def wideS (lo hi : Int) : Int := if mayS lo hi = true then (if hi = -1 then lo + 1 else hi + 1) else 0
def classS (lo hi : Int) (d : Nat) : Int := if mayS lo hi = true then (if hi = -1 then min (d : Int) lo else if hi < (d : Int) then -1 else d) else -1
abbrev span (lo hi : Int) : Value := .agg #[.int .i64 lo, .int .i64 hi]
theorem may_parts {lo hi : Int} (h : mayS lo hi = true) : 0 ≤ lo ∧ lo ≤ 9999 ∧ (hi = -1 ∨ (lo ≤ hi ∧ hi ≤ 9999)) := of_decide_eq_true h
theorem box0 {w w' : World} {x y : Value} {T : TypeId} (hb : Below (w.alloc (.cells #[x, y] T)).heap.size (w.alloc (.cells #[x, y] T)) w') : w'.cell? ⟨w.heap.size, 0, none⟩ = some x := by
 have h : (w.alloc (.cells #[x, y] T)).cell? ⟨w.heap.size, 0, none⟩ = some x := by rw [cell_of_row _ w.heap.size 0 _ T (0, 0) (heap_alloc_new w _)]; rfl
 exact (hb.cell (World.block_lt_of_cell? _ _ h)).trans h
theorem box1 {w w' : World} {x y : Value} {T : TypeId} (hb : Below (w.alloc (.cells #[x, y] T)).heap.size (w.alloc (.cells #[x, y] T)) w') : w'.cell? ⟨w.heap.size, 1, none⟩ = some y := by
 have h : (w.alloc (.cells #[x, y] T)).cell? ⟨w.heap.size, 1, none⟩ = some y := by rw [cell_of_row _ w.heap.size 1 _ T (0, 0) (heap_alloc_new w _)]; rfl
 exact (hb.cell (World.block_lt_of_cell? _ _ h)).trans h
theorem keep_cell {w w' : World} {p : Addr} {u : Value} (hb : Below w.heap.size w w') (h : w.cell? p = some u) : w'.cell? p = some u := (hb.cell (World.block_lt_of_cell? w p h)).trans h
theorem may_cases (lo hi : Int) : lo < 0 ∧ mayS lo hi = false ∨ (0 ≤ lo ∧ 9999 < lo ∧ mayS lo hi = false) ∨ (0 ≤ lo ∧ lo ≤ 9999 ∧ hi = -1 ∧ mayS lo hi = true) ∨
  (0 ≤ lo ∧ lo ≤ 9999 ∧ (hi == -1) = false ∧ hi < lo ∧ mayS lo hi = false) ∨ (0 ≤ lo ∧ lo ≤ 9999 ∧ (hi == -1) = false ∧ lo ≤ hi ∧ decide (hi ≤ 9999) = false ∧ mayS lo hi = false) ∨
  (0 ≤ lo ∧ lo ≤ 9999 ∧ (hi == -1) = false ∧ lo ≤ hi ∧ hi ≤ 9999 ∧ mayS lo hi = true) := by
 unfold mayS
 simp only [beq_eq_false_iff_ne, ne_eq, decide_eq_false_iff_not, decide_eq_true_iff]
 omega
theorem may_ways (lo hi : Int) : mayS lo hi = false ∨ (mayS lo hi = true ∧ hi = -1 ∧ 0 ≤ lo ∧ lo ≤ 9999) ∨ (mayS lo hi = true ∧ (hi == -1) = false ∧ ¬ hi = -1 ∧ 0 ≤ lo ∧ lo ≤ hi ∧ hi ≤ 9999) := by
 unfold mayS
 simp only [beq_eq_false_iff_ne, ne_eq, decide_eq_false_iff_not, decide_eq_true_iff]
 omega
end Go.Proofs.YtdbgaccnejffpaaGreat.Ival

namespace Go.Proofs.YtdbgaccnejffpaaGreat.Sat
open Go.Proofs.YtdbgaccnejffpaaGreat.Paths
structure Tm where
 n : Nat
 tm : Nat → Nat
 pr : List UInt8 → Nat → Prop
inductive Fo where
 | z (k : Int) (s : List UInt8)
 | o (k lo hi : Int) (a : Fo)
 | t (k lo hi : Int) (a b : Fo)
def Tm.near (T : Tm) (lo hi : Int) (i j : Nat) : Prop := Ival.hasS lo hi (T.tm j - T.tm i) = true
def leafP (T : Tm) (k : Int) (s : List UInt8) (i : Nat) : Prop := k = 1 ∨ (k = 3 ∧ T.pr s i)
def oneP (T : Tm) (k lo hi : Int) (A : Nat → Nat → Prop) (i : Nat) : Prop :=
 if k = 4 then ¬ A i i
 else if k = 8 then 0 < i ∧ T.near lo hi (i - 1) i ∧ A (i - 1) (i - 1)
 else if k = 9 then i + 1 < T.n ∧ T.near lo hi i (i + 1) ∧ A (i + 1) (i + 1)
 else if k = 10 then ∃ j, j ≤ i ∧ T.near lo hi j i ∧ A j j
 else if k = 11 then ∀ j, j ≤ i → T.near lo hi j i → A j j
 else if k = 12 then ∃ j, i ≤ j ∧ j < T.n ∧ T.near lo hi i j ∧ A j j
 else if k = 13 then ∀ j, i ≤ j → j < T.n → T.near lo hi i j → A j j
 else if k = 16 then ∃ j, j ≤ i ∧ T.near lo hi j i ∧ A j i
 else if k = 17 then ∃ j, i ≤ j ∧ j < T.n ∧ T.near lo hi i j ∧ A i j
 else A i i
def twoP (T : Tm) (k lo hi : Int) (A B : Nat → Nat → Prop) (i : Nat) : Prop :=
 if k = 5 then A i i ∧ B i i
 else if k = 6 then A i i ∨ B i i
 else if k = 7 then (A i i → B i i)
 else if k = 14 then ∃ j, j ≤ i ∧ T.near lo hi j i ∧ B j j ∧ ∀ q, j < q → q ≤ i → A q q
 else if k = 15 then ∃ j, i ≤ j ∧ j < T.n ∧ T.near lo hi i j ∧ B j j ∧ ∀ q, i ≤ q → q < j → A q q
 else False
def sem (T : Tm) : Fo → Nat → Nat → Prop
 | .z k s, i, j => if k = 18 then j = i + 1 ∧ j < T.n else j = i ∧ i < T.n ∧ leafP T k s i
 | .o k lo hi a, i, j => if k = 22 then i < T.n ∧ Chain (sem T a) i j else j = i ∧ i < T.n ∧ oneP T k lo hi (sem T a) i
 | .t k lo hi a b, i, j =>
  if k = 20 then sem T a i j ∨ sem T b i j
  else if k = 21 then ∃ m, sem T a i m ∧ sem T b m j
  else j = i ∧ i < T.n ∧ twoP T k lo hi (sem T a) (sem T b) i
end Go.Proofs.YtdbgaccnejffpaaGreat.Sat
