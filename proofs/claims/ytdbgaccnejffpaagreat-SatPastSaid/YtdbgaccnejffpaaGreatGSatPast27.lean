/-
  The landed row, step (stage 14). By an AI agent.
  A region walked as anywhere, in a round of a loop over a function: what the plain walk shows holds there too, where nothing is deferred. By an AI agent.
  slices.Backward, ranged over: from the last element to the first (stage 14). By an AI agent. (Written by wip/tools/genback14.py.)
-/
import Derived.Test.YtdbgaccnejffpaaGreatGSatPast1
import Derived.Test.YtdbgaccnejffpaaGreatGSatPast24
import Derived.Deep.RegionHeld3
import Derived.RangeFuncNested
import Derived.RangeFuncLeaves
import Derived.TacticsInMore
import Derived.LoopIn
import Derived.OwnWalkIn
import Derived.RangeFuncBound
namespace Go.Proofs.YtdbgaccnejffpaaGreat.Paths
open Go.RowKit Go.Proofs.YtdbgaccnejffpaaGreat.Ints Go.Proofs.YtdbgaccnejffpaaGreat.Mem Go.Proofs.YtdbgaccnejffpaaGreat.Src Go.Proofs.YtdbgaccnejffpaaGreat.Tree Go.Proofs.YtdbgaccnejffpaaGreat.BitsWalks Go.Proofs.YtdbgaccnejffpaaGreat.RdW Go.Proofs.YtdbgaccnejffpaaGreat.Words

def rowB (n : Nat) (f : Nat → Bool) : List Value := (List.range n).map fun j => .bool (f j)
theorem rowB_len (n : Nat) (f : Nat → Bool) : (rowB n f).length = n := by simp [rowB]
theorem rowB_at {n : Nat} {f : Nat → Bool} {j : Nat} (h : j < n) : (rowB n f)[j]? = some (.bool (f j)) := by
 unfold rowB
 rw [List.getElem?_map, List.getElem?_range h]
 rfl
theorem rowB_none {n : Nat} {f : Nat → Bool} {j : Nat} (h : ¬ j < n) : (rowB n f)[j]? = none := List.getElem?_eq_none (by rw [rowB_len]; omega)
theorem rowB_next (n : Nat) (f : Nat → Bool) (i : Nat) : (rowB n (fun j => decide (j < i) && f j)).set i (.bool (f i)) = rowB n (fun j => decide (j < i + 1) && f j) := by
 apply List.ext_getElem?
 intro q
 rw [List.getElem?_set, rowB_len]
 by_cases hq : q < n
 · rw [rowB_at hq, rowB_at hq]
   by_cases e : i = q
   · subst e
     rw [if_pos rfl, if_pos hq, decide_eq_true (show i < i + 1 by omega), Bool.true_and]
   · rw [if_neg e]
     by_cases h2 : q < i
     · rw [decide_eq_true h2, decide_eq_true (show q < i + 1 by omega)]
     · rw [decide_eq_false h2, decide_eq_false (show ¬ q < i + 1 by omega)]
 · rw [rowB_none hq, rowB_none hq]
   by_cases e : i = q
   · rw [if_pos e, if_neg (by omega)]
   · rw [if_neg e]
theorem rowB_zero (n : Nat) (f : Nat → Bool) : rowB n (fun j => decide (j < 0) && f j) = List.replicate n (.bool false) := by
 unfold rowB
 rw [show (fun j => Value.bool (decide (j < 0) && f j)) = fun _ => Value.bool false from funext fun j => by simp, List.map_const', List.length_range]
theorem rowB_full (n : Nat) (f : Nat → Bool) : rowB n (fun j => decide (j < n) && f j) = rowB n f := by
 unfold rowB
 apply List.map_congr_left
 intro j hj
 show Value.bool (decide (j < n) && f j) = Value.bool (f j)
 rw [decide_eq_true (List.mem_range.1 hj), Bool.true_and]
theorem rd_one {w : World} {r x : Nat} (h : w.cell? ⟨r, 0, none⟩ = some (.int .u64 ((x : Nat) : Int))) (hx : x < 18446744073709551616) : RdW w (some ⟨r, 0, none⟩) 1 [x] := by
 refine ⟨rfl, fun j hj => ?_, fun _ => ⟨r, 0, rfl, fun j hj => ?_⟩⟩
 · obtain rfl : j = 0 := by omega
   exact word_wf hx
 · obtain rfl : j = 0 := by omega
   exact h
set_option maxHeartbeats 4000000 in
set_option maxRecDepth 100000 in
theorem landRow (r x nv : Nat) (w : World) (hc : w.cell? ⟨r, 0, none⟩ = some (.int .u64 ((x : Nat) : Int))) (hx : x < 18446744073709551616) (hnv : nv ≤ 1000000) :
   Calls Tryz.prog 136 #[.slice (some ⟨r, 0, none⟩) 1 1, .int .i64 (nv : Nat)] w fun e w' => ∃ B, e = .returned (.slice (some ⟨B, 0, none⟩) nv nv) ∧ w'.ownsRow w.heap.size 4 1 (.slice (some ⟨B, 0, none⟩) nv nv) nv (rowB nv (fun j => hasI [x] ((j : Nat) : Int))) ∧ Below w.heap.size w w' := by
 have q63 : maxLen = 9223372036854775807 := rfl
 obtain ⟨i1, hi1, hy0, hy1, hy2⟩ := info_parts infoBl
 have b2 : i1.bytes * nv ≤ 281474976710656 := by rw [hy2]; omega
 have b3 : nv ≤ maxLen := by omega
 have HR := Lib.hid (rd_one hc hx)
 have HF := Lib.hid (show ∀ j, (fun j : Nat => hasI [x] ((j : Nat) : Int)) j = hasI [x] ((j : Nat) : Int) from fun _ => rfl)
 obtain ⟨f, hf⟩ : ∃ f : Nat → Bool, (fun j : Nat => hasI [x] ((j : Nat) : Int)) = f := ⟨_, rfl⟩
 have HFE := Lib.hid (show ∀ j : Nat, hasI [x] ((j : Nat) : Int) = f j from fun j => by rw [← hf])
 rw [hf]
 clear hc hf HF
 go_enter Tryz.func136, Tryz.ntmps136
 go_wp2_with (at_make; refine wpList_make_full _ rfl (.tmp 7) (.tmp 7) 32 rfl w.heap.size 4 i1 (.bool false) 1 Tryz.underlying32 hi1 hy0 hy1 .i64 .i64 _ _ nv rfl rfl rfl rfl b2 b3 (Nat.le_refl _) ?_; intro w1 hmade hgr1; rw [made_bools] at hmade)
 have HM := Lib.hid hmade
 have HG := Lib.hid hgr1
 clear hmade hgr1
 go_loopw [11] (fun v wr => ∃ (i : Nat), v = .int .i64 (i : Nat) ∧ i ≤ nv ∧ wr.ownsRow w.heap.size 4 1 (.slice (some ⟨w.heap.size, 0, none⟩) nv nv) nv (rowB nv (fun j => decide (j < i) && f j)) ∧ Below w.heap.size w wr) (fun v _ => nv - (intOf v).toNat)
 case atStart => exact ⟨0, rfl, Nat.zero_le _, by rw [rowB_zero]; exact HM.out, ⟨HG.out.os, HG.out.tape, HG.out.output, HG.out.size, fun k hk => HG.out.block k hk (by simp)⟩⟩
 case round =>
   obtain ⟨i, rfl, hin, hout, hB⟩ := hrel
   have HO := Lib.hid hout
   have HB := Lib.hid hB
   by_cases hlt : i < nv
   · have c0 := hout.cells (g := w.heap.size) rfl i _ (rowB_at hlt)
     rw [Addr.add_lit, Nat.zero_add] at c0
     have f0 := own_fz hout i
     have HH := Lib.hid (has_ (some ⟨r, 0, none⟩) 1 1 [x] wr ((i : Nat) : Int) (by omega) (HR.out.below HB.out))
     rw [HFE.out i] at HH
     have HN := Lib.hid (own_put (k := i) hout (.bool (f i)))
     rw [rowB_next] at HN
     have HBN := Lib.hid (hB.setCell (p := ⟨w.heap.size, i, none⟩) (Nat.le_refl _) (.bool (f i)))
     obtain ⟨fi, hfi⟩ : ∃ b, f i = b := ⟨_, rfl⟩
     rw [hfi] at HH HN HBN
     clear hout hB hfi
     go_wp2_with (go_at_call 143; refine HH.out.mono ?_; rintro e w2 ⟨rfl, rfl⟩)
     go_roundw
     case rel => exact ⟨i + 1, by simp, by omega, HN.out, HBN.out⟩
     case measure => (show nv - (i + 1) < nv - i; omega)
   · obtain rfl : i = nv := by omega
     have HN := Lib.hid hout
     rw [rowB_full] at HN
     clear hout hB
     go_wp2_with fail
     go_ret
     exact ⟨w.heap.size, rfl, HN.out, HB.out⟩
theorem run_clear_one (w : World) (r x : Nat) (hc : w.cell? ⟨r, 0, none⟩ = some (.int .u64 ((x : Nat) : Int))) (hf : w.frozen? ⟨r, 0, none⟩ = false) (ty : TypeId) :
   (Builtin.clear_ #[117] ty #[.slice (some ⟨r, 0, none⟩) 1 1]).run Tryz.prog w = .ok (.tuple #[]) (w.setCell ⟨r, 0, none⟩ (.int .u64 0)) := by
 obtain ⟨i1, hi1, hy0, hy1, hy2⟩ := info_parts infoU
 have hz : (Builtin.zeroCells #[.int .u64 0] 1).toList = [.int .u64 0] := by simp [Builtin.zeroCells]
 have hs := Go.run_storeCells_cells (P := Tryz.prog) r 0 [.int .u64 0] 0 w (fun j hj => by
   have hj : j < 1 := hj
   obtain rfl : j = 0 := by omega
   exact Option.isSome_iff_exists.2 ⟨_, hc⟩) (fun j hj => by
   have hj : j < 1 := hj
   obtain rfl : j = 0 := by omega
   exact hf) (fun v hv => by rw [List.mem_singleton.1 hv]; rfl)
 have e : w.setCells r (0 + 0) [.int .u64 0] = w.setCell ⟨r, 0, none⟩ (.int .u64 0) := rfl
 rw [e] at hs
 have e0 : (Value.int .u64 0).cells = #[.int .u64 0] := rfl
 simp [Builtin.clear_, run_underlying Tryz.underlying117, zeroValue, typeInfo, hi1, hy0, e0, hz, hs]
theorem own_sl3 {w : World} {base : Nat} {e : TypeId} {size : Nat} {v : Value} {n : Nat} {xs : List Value} (h : w.ownsRow base e size v n xs) : ∃ A c, v = .slice A n c ∧ n ≤ c ∧ c ≤ maxLen ∧ (A = none → c = 0) ∧ (0 < n → ∃ r, A = some ⟨r, 0, none⟩) := by
 rcases h.2 with ⟨rfl, rfl⟩ | ⟨g, cap, cur, rfl, _, _, h3, h4, _⟩
 · exact ⟨none, 0, rfl, Nat.le_refl _, (by decide), (fun _ => rfl), (fun h => by omega)⟩
 · exact ⟨_, cap, rfl, h3, h4, (fun h => by cases h), (fun _ => ⟨g, rfl⟩)⟩
def stepG (sp : List Ed) (h : Nat → Nat) : Nat → Nat := sp.foldl (fun g e => updS g e.1 (g e.1 ||| h e.2.1)) (fun _ => 0)
theorem stepG_snoc (sp : List Ed) (e : Ed) (h : Nat → Nat) : stepG (sp ++ [e]) h = updS (stepG sp h) e.1 (stepG sp h e.1 ||| h e.2.1) := by unfold stepG; rw [List.foldl_append]; rfl
theorem take_snoc {l : List Ed} {k : Nat} {e : Ed} (h : l[k]? = some e) : l.take (k + 1) = l.take k ++ [e] := by
 rw [List.take_add_one, h]
 rfl
def zeroTo (g : Nat → Nat) (k : Nat) : Nat → Nat := fun i => if i < k then 0 else g i
theorem zeroTo_next (g : Nat → Nat) (k i : Nat) : updS (zeroTo g k) k 0 i = zeroTo g (k + 1) i := by
 unfold updS zeroTo
 by_cases e : i = k
 · rw [if_pos e, if_pos (by omega)]
 · rw [if_neg e]
   by_cases h : i < k
   · rw [if_pos h, if_pos (by omega)]
   · rw [if_neg h, if_neg (by omega)]
theorem or_small {x y : Nat} (hx : x < 18446744073709551616) (hy : y < 18446744073709551616) : x ||| y < 18446744073709551616 := Nat.or_lt_two_pow (n := 64) hx hy
def InRows (R : Nat → Nat) (np : Nat) (q : Nat) : Prop := ∃ i, i < np ∧ q = R i
set_option maxHeartbeats 8000000 in
set_option maxRecDepth 100000 in
theorem landStep (lo lo2 gp np nt B1 B2 : Nat) (R1 R2 g h : Nat → Nat) (sv pv : Value) (st sp : List Ed) (w : World) (hG : GMem w lo gp sv pv np nt st sp) (hS : Sets w lo2 B1 R1 np 1 g) (hT : Sets w lo2 B2 R2 np 1 h)
   (hR : ∀ i j, i < np → j < np → R1 i ≠ R2 j) (hB1 : ∀ i, i < np → R1 i ≠ B2) (hgl : gp < lo2) (hpl : ∀ q, pv.ownBlock = some q → q < lo2) (hE : ∀ e ∈ sp, e.1 < np ∧ e.2.1 < np) (hnp : np ≤ 2000000) (hsl : sp.length ≤ 2000000) :
   Calls Tryz.prog 134 #[.pointer (some ⟨gp, 0, none⟩), .slice (some ⟨B1, 0, none⟩) np np, .slice (some ⟨B2, 0, none⟩) np np] w fun e w' =>
     e = .returned (.tuple #[]) ∧ Sets w' lo2 B1 R1 np 1 (stepG sp h) ∧ Left (InRows R1 np) w w' := by
 have hlt := hS.lt
 have hlt2 := hT.lt
 have hdn : ∀ q, InRows R1 np q → lo2 ≤ q ∧ q < w.heap.size := fun q ⟨i, hi, e⟩ => e ▸ hlt.2 i hi
 have HD := Lib.hid hdn
 have HP := Lib.hid hG
 have HT := Lib.hid (show ∀ W, Left (InRows R1 np) w W → Sets W lo2 B2 R2 np 1 h from fun W hl => hT.left hl (fun ⟨i, hi, e⟩ => hB1 i hi e.symm) (fun j hj ⟨i, hi, e⟩ => hR i j hi hj e.symm))
 have HPV := Lib.hid (show ∀ W, Left (InRows R1 np) w W → W.ownsRow lo 154 3 pv sp.length (rowEd sp) from fun W hl => own_same' hG.sps (fun q e => hl.block q (hG.sps.lt q e).2 (fun hd => by have := hdn q hd; have := hpl q e; omega)))
 have HGB := Lib.hid (show ∀ W, Left (InRows R1 np) w W → W.cell? ⟨gp, 3, none⟩ = some pv from fun W hl => (World.cell?_of_block (a := ⟨gp, 3, none⟩) (hl.block gp hG.blk.1 (fun hd => by have := hdn gp hd; omega))).trans (hG.blk.cell 3 rfl))
 have HBL := Lib.hid (And.intro hlt hlt2)
 have HE := Lib.hid hE
 have HH := Lib.hid hT.wd
 have HR := Lib.hid (And.intro hR hB1)
 obtain ⟨A, c, e, hc1, -, -, -⟩ := own_sl3 hG.sps
 have hnp' : ((np : Nat) : Int) ≤ 2000000 := by omega
 have hsl' : ((sp.length : Nat) : Int) ≤ 2000000 := by omega
 obtain ⟨N, hN⟩ : ∃ N, sp.length = N := ⟨_, rfl⟩
 rw [hN] at e hsl' HPV hsl
 subst e
 have HN := Lib.hid hN
 have HS := Lib.hid (hS.ext (g' := zeroTo g 0) (fun i _ => by unfold zeroTo; rw [if_neg (Nat.not_lt_zero i)]))
 clear hG hS hT hR hB1 hgl hpl hE hlt hlt2 hdn hc1 hN
 go_enter Tryz.func134, Tryz.ntmps134
 go_wp2_with fail
 go_loopw [12] (fun v wr => ∃ (i : Nat), v = .int .i64 (i : Nat) ∧ i ≤ np ∧ Sets wr lo2 B1 R1 np 1 (zeroTo g i) ∧ Left (InRows R1 np) w wr) (fun v _ => np - (intOf v).toNat)
 case atStart => exact ⟨0, rfl, Nat.zero_le _, HS.out, Left.refl _ _⟩
 case round =>
   obtain ⟨i, rfl, hin, hs, hL⟩ := hrel
   have HSi := Lib.hid hs
   have HL := Lib.hid hL
   by_cases hlt : i < np
   · have c0 := hs.outer hlt
     have c1 := hs.inner hlt
     have f1 := hs.fz hlt 0
     have hcl := fun ty => run_clear_one wr (R1 i) _ c1 f1 ty
     have HN2 := Lib.hid ((hs.set hlt 0 (by decide)).ext (fun j _ => zeroTo_next g i j))
     have HL2 := Lib.hid (hL.set ⟨R1 i, 0, none⟩ (.int .u64 0) ⟨i, hlt, rfl⟩)
     clear hs hL c1 f1
     go_wp2_with fail
     go_roundw
     case rel => exact ⟨i + 1, by simp, by omega, HN2.out, HL2.out⟩
     case measure => (show np - (i + 1) < np - i; omega)
   · obtain rfl : i = np := by omega
     have c3 := HGB.out wr HL.out
     have HS0 := Lib.hid (hs.ext (g' := stepG (sp.take 0) h) (fun j hj => by unfold zeroTo; rw [if_pos hj]; rfl))
     clear hs hL hin hlt
     go_wp2_with fail
     obtain ⟨wo, hwo⟩ : ∃ wo, wr = wo := ⟨_, rfl⟩
     subst hwo
     go_loopw [23] (fun v wr => ∃ (k : Nat), v = .int .i64 (k : Nat) ∧ k ≤ N ∧ Sets wr lo2 B1 R1 i 1 (stepG (sp.take k) h) ∧ Left (InRows R1 i) w wr) (fun v _ => N - (intOf v).toNat)
     case atStart => exact ⟨0, rfl, Nat.zero_le _, HS0.out, HL.out⟩
     case round =>
       obtain ⟨k, rfl, hkn, hs, hL⟩ := hrel
       have HL2 := Lib.hid hL
       by_cases hlt : k < N
       · obtain ⟨⟨u, v, t⟩, hed⟩ : ∃ ed, sp[k]? = some ed := ⟨_, List.getElem?_eq_getElem (by have := HN.out; omega)⟩
         obtain ⟨hu, hv⟩ := HE.out _ (List.mem_of_getElem? hed)
         have hu : u < i := hu
         have hv : v < i := hv
         have hpv := HPV.out wr HL2.out
         obtain ⟨A', c', e', -, -, -, hA⟩ := own_sl3 hpv
         obtain ⟨r, rfl⟩ : ∃ r, A = some ⟨r, 0, none⟩ := by
           injection e' with e1 e2 e3
           rw [e1]
           exact hA (by omega)
         obtain ⟨x0, x1, x2⟩ := rowEd_at hed
         have c0 := hpv.cells (g := r) rfl _ _ x0
         have c1 := hpv.cells (g := r) rfl _ _ x1
         have c2 := hpv.cells (g := r) rfl _ _ x2
         rw [Addr.add_lit, Nat.zero_add, Nat.mul_comm 3 k] at c0 c1 c2
         have hal : Below wr.heap.size wr (wr.alloc (.cells #[.int .i64 (u : Nat), .int .i64 (v : Nat), .int .i64 t] 154)) := (Below.refl _ _).alloc (Nat.le_refl _) _
         obtain ⟨V, hV⟩ : ∃ V, (wr.alloc (.cells #[.int .i64 (u : Nat), .int .i64 (v : Nat), .int .i64 t] 154)).drew = V := ⟨_, rfl⟩
         have hbV : Below wr.heap.size wr V := by rw [← hV]; exact hal.drew
         have hx : Blk V wr.heap.size [.int .i64 (u : Nat), .int .i64 (v : Nat), .int .i64 t] := by rw [← hV]; exact (Blk.new wr _ _ _ rfl).drew
         have hs1 := hs.below hbV
         have hl1 := HL2.out.trans (Left.of_below hbV)
         have ht1 := HT.out V hl1
         have hxl := hx.1
         have d0 := hx.cell 0 rfl
         have d1 := hx.cell 1 rfl
         have d2 := hs1.outer hu
         have d3 := ht1.outer hv
         have HADD := Lib.hid (landAdd (R1 u) (R2 v) _ _ V (hs1.inner hu) (hs1.fz hu 0) (ht1.inner hv) (hs1.wd u hu) (ht1.wd v hv))
         have HSV := Lib.hid ((hs1.set hu _ (or_small (hs1.wd u hu) (ht1.wd v hv))).ext (g' := stepG (sp.take (k + 1)) h) (fun j _ => by rw [take_snoc hed, stepG_snoc]))
         have HLV := Lib.hid (hl1.set ⟨R1 u, 0, none⟩ (.int .u64 ((stepG (sp.take k) h u ||| h v : Nat) : Int)) ⟨u, hu, rfl⟩)
         have hne1 : R1 u ≠ wr.heap.size := fun e => by have := (hs.lt.2 u hu).2; omega
         have hne2 : R1 u ≠ B1 := (hs.off u hu).1
         have hne3 : R1 u ≠ B2 := HR.out.2 u hu
         have HS1 := Lib.hid (show (∀ z : Value, ((V.setCell ⟨R1 u, 0, none⟩ z).cell? ⟨wr.heap.size, 0, none⟩ = some (.int .i64 (u : Nat)) ∧ (V.setCell ⟨R1 u, 0, none⟩ z).cell? ⟨wr.heap.size, 1, none⟩ = some (.int .i64 (v : Nat)) ∧ (V.setCell ⟨R1 u, 0, none⟩ z).cell? ⟨B1, u, none⟩ = some (.slice (some ⟨R1 u, 0, none⟩) 1 1) ∧ (V.setCell ⟨R1 u, 0, none⟩ z).cell? ⟨B2, v, none⟩ = some (.slice (some ⟨R2 v, 0, none⟩) 1 1))) from fun z => by
           have go : ∀ (q o : Nat) (y : Value), R1 u ≠ q → V.cell? ⟨q, o, none⟩ = some y → (V.setCell ⟨R1 u, 0, none⟩ z).cell? ⟨q, o, none⟩ = some y := fun q o y hq hy => (World.cell?_of_block (w := V) (a := ⟨q, o, none⟩) (Below.heap_setCell V _ z q (fun e => hq e.symm))).trans hy
           exact ⟨go _ _ _ hne1 d0, go _ _ _ hne1 d1, go _ _ _ hne2 d2, go _ _ _ hne3 d3⟩)
         have HS0' := Lib.hid (show V.cell? ⟨wr.heap.size, 0, none⟩ = some (.int .i64 (u : Nat)) ∧ V.cell? ⟨wr.heap.size, 1, none⟩ = some (.int .i64 (v : Nat)) ∧ V.cell? ⟨B1, u, none⟩ = some (.slice (some ⟨R1 u, 0, none⟩) 1 1) ∧ V.cell? ⟨B2, v, none⟩ = some (.slice (some ⟨R2 v, 0, none⟩) 1 1) from ⟨d0, d1, d2, d3⟩)
         have hui : ((u : Nat) : Int) < ((i : Nat) : Int) := by omega
         have hvi : ((v : Nat) : Int) < ((i : Nat) : Int) := by omega
         clear hs hL hpv hA e' x0 x1 x2 hal hbV hx hs1 hl1 ht1 hxl d0 d1 d2 d3 hne1 hne2 hne3 hed hu hv
         go_wp2_with fail
         refine wp_region_held_drew (S := fun W => W.cell? ⟨wr.heap.size, 0, none⟩ = some (.int .i64 (u : Nat)) ∧ W.cell? ⟨wr.heap.size, 1, none⟩ = some (.int .i64 (v : Nat)) ∧ W.cell? ⟨B1, u, none⟩ = some (.slice (some ⟨R1 u, 0, none⟩) 1 1) ∧ W.cell? ⟨B2, v, none⟩ = some (.slice (some ⟨R2 v, 0, none⟩) 1 1)) (by kernel_rfl) (by rw [hV]; exact HS0'.out) (fun hHeld => ?_)
         rw [hV] at hHeld ⊢
         refine tkOp 0 hHeld ?_
         refine tkOp 1 hHeld ?_
         refine tkOp 2 hHeld ?_
         refine tkOp 3 hHeld ?_
         refine tkOp 4 hHeld ?_
         refine tkOp 5 hHeld ?_
         refine tkOp 6 hHeld ?_
         refine tkOp 7 hHeld ?_
         refine tkOp 8 hHeld ?_
         refine tkOp 9 hHeld ?_
         refine tkCall 10 (fun Kt hKt => ?_)
         go_simp
         (go_at_call 141; refine HADD.out.mono ?_; rintro e w2 ⟨rfl, rfl⟩)
         refine hKt.out _ _ ?_ (fun hT => ?_)
         · (exact HS1.out _)
         clear hKt Kt hHeld
         have hHeld := hT
         clear hT
         try simp only [Act.put, tkA, tkB, tkC]
         refine wpAnyH_done (by kernel_rfl) ?_ _
         clear hHeld
         go_wp2_with fail
         go_roundw
         case rel => exact ⟨k + 1, by simp, by omega, HSV.out, HLV.out⟩
         case measure => (show N - (k + 1) < N - k; omega)
       · obtain rfl : k = N := by omega
         have HF := Lib.hid (hs)
         rw [List.take_of_length_le (by have := HN.out; omega)] at HF
         clear hs hL
         go_wp2_with fail
         go_end0
         exact ⟨rfl, HF.out, HL2.out⟩
end Go.Proofs.YtdbgaccnejffpaaGreat.Paths

namespace Go.Proofs.YtdbgaccnejffpaaGreat.Round
open Go.RowKit

abbrev Wide (r : Option Nat) : Fence := ⟨fun _ => True, none, false, r⟩
theorem fenced_all (P : Program) (r : Option Nat) (m : Machine) : m.fenced P (Wide r) := fun _ _ => ⟨fun h => (by cases h), .inl trivial, fun _ _ => trivial, fun _ h => (by cases h)⟩
theorem steps_all {P : Program} {r : Option Nat} {m m' : Machine} : StepsIn (Machine.fenced P (Wide r)) P m m' ↔ Steps P m m' :=
 ⟨StepsIn.steps, fun h => (StepsIn.of_steps h).mono fun m _ => fenced_all P r m⟩
theorem comes_all {P : Program} {r : Option Nat} {m m' : Machine} {e : Ending} (h : Comes P m m' e) : ComesIn (Machine.fenced P (Wide r)) P m m' e := by
 cases e with
 | returned v => exact steps_all.2 h
 | panicked chain => exact steps_all.2 h
 | outgrown => exact h
theorem calls_all {r : Option Nat} {n : Nat} {P : Program} {f : FuncId} {args : Array Value} {w : World} {R : Ending → World → Prop} (h : Calls P f args w R) : CallsIn (Wide r) n P f args w R :=
 ⟨trivial, fun cs _ => let ⟨e, w', fr, q, s, x⟩ := h cs; ⟨e, w', fr, q, comes_all s, x⟩⟩
theorem calls_of {n : Nat} {P : Program} {f : FuncId} {args : Array Value} {w : World} {R : Ending → World → Prop} (h : CallsIn Fence.wide n P f args w R) : Calls P f args w R := callsIn_wide.1 h
theorem rows_all {r : Option Nat} {n : Nat} {P : Program} {row : String} {args : Array Value} {w : World} {R : Value → World → Prop} (h : Rows P row args w R) : RowsIn (Wide r) n P row args w R :=
 fun c cs _ => let ⟨v, w', q, s⟩ := h c cs; ⟨v, w', q, steps_all.2 s⟩
section
variable {P : Program} {ops : Array Oper} {Q : Exit → Act → World → Prop} {n : Nat} {r : Option Nat}
theorem upon_all {o : Oper} {a : Act} {next next' : Act → World → Prop} (hn : ∀ a w, next a w → next' a w) : ∀ res, o.upon P a next Q res → o.uponIn (Wide r) n P a next' Q res
 | .ok (.value _) _, h => hn _ _ h
 | .ok .skip _, h => hn _ _ h
 | .ok (.defer _) _, h => hn _ _ h
 | .ok (.enter f args) w', h => ⟨fun e => (by cases e), calls_all (Calls.mono (R' := fun
     | .returned v, w'' => next' (a.put o.dst v) w''
     | .panicked chain, w'' => Q (.panic chain) a w''
     | .outgrown, _ => LetsOut Q) h fun e w'' he => by
       cases e with
       | returned v => exact hn _ _ he
       | panicked c => exact he
       | outgrown => exact he)⟩
 | .ok (.row row args) w', h => ⟨fun e => (by cases e), rows_all (Rows.mono h fun _ _ he => hn _ _ he)⟩
 | .halt (.panic _) _, h => h
def noDefer (ops : Array Oper) : Bool := ops.all fun o => match o.op with | .defer _ => false | _ => true
theorem noDefer_at (h : noDefer ops = true) {i : Nat} {o : Oper} (ho : ops[i]? = some o) (c : Call) : o.op ≠ .defer c := fun e => by
 unfold noDefer at h
 rw [Array.all_eq_true] at h
 obtain ⟨hi, e2⟩ := Array.getElem?_eq_some_iff.1 ho
 have := h i hi
 rw [e2, e] at this
 cases this
theorem ops_all (hd : noDefer ops = true) (hQ : ∀ a w, ¬ Q .outgrown a w) : ∀ (is : List Nat) (a : Act) (w : World), wpOps P ops Q is a w → wpOpsIn (Wide r) n P ops Q is a w := by
 intro is
 induction is with
 | nil => exact fun a w h => h
 | cons i rest ih =>
   intro a w h
   unfold wpOps at h
   unfold wpOpsIn
   cases ho : ops[i]? with
   | none => rw [ho] at h; exact ih a w h
   | some o =>
     rw [ho] at h
     dsimp only at h ⊢
     split
     · rename_i hw
       rw [if_pos hw] at h
       rcases h with h | ⟨-, a0, w0, h⟩
       · refine ⟨fun _ _ => trivial, ?_⟩
         have e : (o.semAt (Wide r).round a.eval) = execOp a.eval o := by
           cases r with
           | none => exact Oper.semAt_none _ _
           | some l => exact Oper.semAt_some l _ _ (noDefer_at hd ho)
         rw [e]
         exact upon_all (fun a w => ih a w) _ h
       · exact absurd h (hQ a0 w0)
     · rename_i hw
       rw [if_neg hw] at h
       exact ⟨fun _ _ => trivial, ih _ _ h⟩
theorem region_all {id : Nat} {l : List Oper} {a : Act} {w : World} (hd : noDefer l.toArray = true) (hQ : ∀ a w, ¬ Q .outgrown a w) (h : wpList P l.toArray Q l a w) : (Code.region id l.toArray false).wpIn (Wide r) n P Q a w := by
 refine wpIn_region (ops_all hd hQ _ _ _ ?_)
 rw [List.size_toArray, List.range_eq_range', wpOps_eq_wpList l 0 (by simp)]
 exact h
theorem region_held {id : Nat} {a : Act} {w : World} (S : World → Prop) (hm : P.follows .mixedOrders = true) (hd : noDefer ops = true) (hQ : ∀ a w, ¬ Q .outgrown a w) (hS : S w.drew)
   (h : S w.drew → wpAnyH P .any ops Q S ops.size (Array.replicate ops.size false) a w.drew) : (Code.region id ops true).wpIn (Wide r) n P Q a w := by
 refine wpIn_region_draw fun t => ops_all hd hQ _ _ _ ?_
 simp only [Region.schedule, hm, Bool.true_or, if_true]
 exact wpAny_sound ops.size t _ a _ (wpAny_of_held _ _ _ _ (h hS))
end
end Go.Proofs.YtdbgaccnejffpaaGreat.Round

namespace Go.Proofs.YtdbgaccnejffpaaGreat.Paths
open Go.RowKit Go.Proofs.YtdbgaccnejffpaaGreat.Ints Go.Proofs.YtdbgaccnejffpaaGreat.Mem Go.Proofs.YtdbgaccnejffpaaGreat.Src Go.Proofs.YtdbgaccnejffpaaGreat.Tree Go.Proofs.YtdbgaccnejffpaaGreat.BitsWalks Go.Proofs.YtdbgaccnejffpaaGreat.RdW Go.Proofs.YtdbgaccnejffpaaGreat.Words Go.Proofs.YtdbgaccnejffpaaGreat.Round

attribute [local go_sem] Oper.semAt_some

abbrev Ix (N : Nat) := { i : Nat // i < N }
def dn (N : Nat) : Nat → List (Ix N)
 | 0 => []
 | k + 1 => if h : N - 1 - k < N then dn N k ++ [⟨N - 1 - k, h⟩] else dn N k
theorem dn_succ {N k : Nat} (h : N - 1 - k < N) : dn N (k + 1) = dn N k ++ [⟨N - 1 - k, h⟩] := by
 show (if h : N - 1 - k < N then dn N k ++ [⟨N - 1 - k, h⟩] else dn N k) = _
 rw [dif_pos h]
theorem dn_len {N : Nat} : ∀ {k : Nat}, k ≤ N → (dn N k).length = k
 | 0, _ => rfl
 | k + 1, h => by rw [dn_succ (by omega), List.length_append, dn_len (by omega)]; rfl
def KpA (A : Nat → Prop) (W W' : World) : Prop := ∀ q, A q → W'.heap[q]? = W.heap[q]?
theorem KpA.refl (A : Nat → Prop) (W : World) : KpA A W W := fun _ _ => rfl
theorem KpA.trans {A : Nat → Prop} {W W1 W2 : World} (h : KpA A W W1) (k : KpA A W1 W2) : KpA A W W2 := fun q hq => (k q hq).trans (h q hq)
theorem kpA_b {A : Nat → Prop} {w : World} (hA : ∀ q, A q → q < w.heap.size) (W : World) (l : Nat) (o o' : Obj) (hl : w.heap.size ≤ l) (_ : W.heap[l]? = some o) (_ : o.isCells = false) (_ : o.isWalk = false) : KpA A W (W.putObj l o') :=
 fun q hq => World.putObj_heap_other (by have := hA q hq; omega)

set_option maxRecDepth 100000 in
set_option maxHeartbeats 1000000 in
theorem backE (A : Option Addr) (n c : Nat) (w : World) : Calls Tryz.prog 142 #[.slice A n c] w fun e w' => e = .returned (.func (.func 145) #[] #[.pointer (some ⟨w.heap.size, 0, none⟩)]) ∧ w' = w.alloc (.cells #[.slice A n c] 148) := by
 have hmf : ∀ (fn : Fn) (first cap : Array Value) (w : World), (Instr.makeFunc fn first cap).run Tryz.prog w = .ok (.func fn first cap) w := fun _ _ _ _ => rfl
 go_enter Tryz.func142, Tryz.ntmps142
 go_wp2
 go_ret
 exact ⟨rfl, rfl⟩
set_option maxRecDepth 100000 in
set_option maxHeartbeats 4000000 in
theorem backE_stops (n : Nat) (hn : 1 ≤ n) (Bs : Nat) (A0 : Option Addr) (N c : Nat) (val : Nat → Value) (A : Nat → Prop) (w : World) (hB : A Bs) (hA : ∀ q, A q → q < w.heap.size) (hN : N ≤ 100000000) (hc : w.cell? ⟨Bs, 0, none⟩ = some (.slice A0 N c))
   (hv : ∀ W, KpA A w W → ∀ i, i < N → ∃ (b off : Nat) (x y z : Value), A0 = some ⟨b, off, none⟩ ∧ val i = .agg #[x, y, z] ∧ W.cell? ⟨b, off + i * 3, none⟩ = some x ∧ W.cell? ⟨b, off + i * 3 + 1, none⟩ = some y ∧ W.cell? ⟨b, off + i * 3 + 2, none⟩ = some z) :
   SeqStopsK Fence.wide n Tryz.prog 145 #[.pointer (some ⟨Bs, 0, none⟩)] (fun x : Ix N => #[Value.int .i64 ((x.1 : Nat) : Int), val x.1]) (KpA A) (fun ys => ys = dn N N) (fun _ => True) N w := fun l J Jx W hW _ _ hY h0 => by
 have hWA : KpA A w W := fun q hq => hW.block q (hA q hq)
 have HV := Lib.hid (fun W' (hk : KpA A W W') => hv W' (hWA.trans hk))
 have HC := Lib.hid (fun W' (hk : KpA A W W') => (World.cell?_of_block (w := w) (a := ⟨Bs, 0, none⟩) ((hWA.trans hk) Bs hB)).trans hc)
 have c0 := HC.out W (KpA.refl _ _)
 have hN' : ((N : Nat) : Int) ≤ 100000000 := by omega
 clear hv hc
 refine callsIn_of_wp Tryz.func145 rfl trivial ?_ rfl
 simp only [Tryz.ntmps145, List.size_toArray, List.length_cons, List.length_nil, Nat.reduceAdd, Nat.reduceSub, Array.replicate_succ, Array.replicate_zero, List.push_toArray, List.append_toArray, List.nil_append, List.cons_append]
 gi_wp2
 gi_loopw [3] (fun i wr => ∃ m : Nat, m ≤ N ∧ i = .int .i64 ((m : Nat) - 1 : Int) ∧ J (dn N (N - m)) wr ∧ KpA A W wr) (fun i _ => (intOf i + 1).toNat)
 case atStart => exact ⟨N, Nat.le_refl _, by simp, by rw [Nat.sub_self]; exact h0, KpA.refl _ _⟩
 case round =>
   obtain ⟨m, hm, rfl, hJs, hk⟩ := hrel
   have c1 := HC.out wr hk
   by_cases hlt : 0 < m
   · obtain ⟨p, hp⟩ : ∃ p, m - 1 = p := ⟨_, rfl⟩
     have e1 : ((m : Nat) : Int) - 1 = ((p : Nat) : Int) := by omega
     have hpN : p < N := by omega
     have hx := HV.out wr hk p hpN
     obtain ⟨fn, tmps, assign, body, hy, hR⟩ := hY _ ⟨p, hpN⟩ wr hJs (by rw [dn_len (by omega)]; omega)
     dsimp only at hy
     have HD := Lib.hid (show dn N (N - m) ++ [⟨p, hpN⟩] = dn N (N - p) by
       have e2 : N - p = (N - m) + 1 := by omega
       rw [e2, dn_succ (by omega)]
       congr 2
       exact Subtype.ext (by show p = N - 1 - (N - m); omega))
     rw [HD.out] at hR
     have hpi : ((p : Nat) : Int) < ((N : Nat) : Int) := by omega
     obtain ⟨b, off, x, y, z, rfl, hval, y0, y1, y2⟩ := hx
     rw [hval] at hy
     rw [e1]
     clear hp hlt e1
     gi_wp2
     refine hR.mono ?_
     rintro e W3 (⟨rfl, hJ3, hk3⟩ | ⟨rfl, hJx3⟩)
     · gi_wp2
       go_roundw
       case rel => exact ⟨p, by omega, rfl, hJ3, hk.trans hk3⟩
       case measure => (show ((p : Int) - 1 + 1).toNat < ((p : Int) + 1).toNat; omega)
     · gi_wp2
       refine bodyPost_ret (results_none rfl _ _ _) rfl ?_
       exact ⟨⟨_, rfl⟩, .inr ⟨_, trivial, hJx3⟩⟩
   · obtain rfl : m = 0 := by omega
     have e1 : ((0 : Nat) : Int) - 1 = -1 := by omega
     rw [e1]
     gi_wp2
     go_end0
     exact ⟨⟨_, rfl⟩, .inl ⟨_, rfl, by rw [Nat.sub_zero] at hJs; exact hJs⟩⟩

set_option maxRecDepth 100000 in
set_option maxHeartbeats 1000000 in
theorem backV (A : Option Addr) (n c : Nat) (w : World) : Calls Tryz.prog 133 #[.slice A n c] w fun e w' => e = .returned (.func (.func 140) #[] #[.pointer (some ⟨w.heap.size, 0, none⟩)]) ∧ w' = w.alloc (.cells #[.slice A n c] 86) := by
 have hmf : ∀ (fn : Fn) (first cap : Array Value) (w : World), (Instr.makeFunc fn first cap).run Tryz.prog w = .ok (.func fn first cap) w := fun _ _ _ _ => rfl
 go_enter Tryz.func133, Tryz.ntmps133
 go_wp2
 go_ret
 exact ⟨rfl, rfl⟩
set_option maxRecDepth 100000 in
set_option maxHeartbeats 4000000 in
theorem backV_stops (n : Nat) (hn : 1 ≤ n) (Bs : Nat) (A0 : Option Addr) (N c : Nat) (val : Nat → Value) (A : Nat → Prop) (w : World) (hB : A Bs) (hA : ∀ q, A q → q < w.heap.size) (hN : N ≤ 100000000) (hc : w.cell? ⟨Bs, 0, none⟩ = some (.slice A0 N c))
   (hv : ∀ W, KpA A w W → ∀ i, i < N → ∃ (b off : Nat), A0 = some ⟨b, off, none⟩ ∧ W.cell? ⟨b, off + i, none⟩ = some (val i)) :
   SeqStopsK Fence.wide n Tryz.prog 140 #[.pointer (some ⟨Bs, 0, none⟩)] (fun x : Ix N => #[Value.int .i64 ((x.1 : Nat) : Int), val x.1]) (KpA A) (fun ys => ys = dn N N) (fun _ => True) N w := fun l J Jx W hW _ _ hY h0 => by
 have hWA : KpA A w W := fun q hq => hW.block q (hA q hq)
 have HV := Lib.hid (fun W' (hk : KpA A W W') => hv W' (hWA.trans hk))
 have HC := Lib.hid (fun W' (hk : KpA A W W') => (World.cell?_of_block (w := w) (a := ⟨Bs, 0, none⟩) ((hWA.trans hk) Bs hB)).trans hc)
 have c0 := HC.out W (KpA.refl _ _)
 have hN' : ((N : Nat) : Int) ≤ 100000000 := by omega
 clear hv hc
 refine callsIn_of_wp Tryz.func140 rfl trivial ?_ rfl
 simp only [Tryz.ntmps140, List.size_toArray, List.length_cons, List.length_nil, Nat.reduceAdd, Nat.reduceSub, Array.replicate_succ, Array.replicate_zero, List.push_toArray, List.append_toArray, List.nil_append, List.cons_append]
 gi_wp2
 gi_loopw [3] (fun i wr => ∃ m : Nat, m ≤ N ∧ i = .int .i64 ((m : Nat) - 1 : Int) ∧ J (dn N (N - m)) wr ∧ KpA A W wr) (fun i _ => (intOf i + 1).toNat)
 case atStart => exact ⟨N, Nat.le_refl _, by simp, by rw [Nat.sub_self]; exact h0, KpA.refl _ _⟩
 case round =>
   obtain ⟨m, hm, rfl, hJs, hk⟩ := hrel
   have c1 := HC.out wr hk
   by_cases hlt : 0 < m
   · obtain ⟨p, hp⟩ : ∃ p, m - 1 = p := ⟨_, rfl⟩
     have e1 : ((m : Nat) : Int) - 1 = ((p : Nat) : Int) := by omega
     have hpN : p < N := by omega
     have hx := HV.out wr hk p hpN
     obtain ⟨fn, tmps, assign, body, hy, hR⟩ := hY _ ⟨p, hpN⟩ wr hJs (by rw [dn_len (by omega)]; omega)
     dsimp only at hy
     have HD := Lib.hid (show dn N (N - m) ++ [⟨p, hpN⟩] = dn N (N - p) by
       have e2 : N - p = (N - m) + 1 := by omega
       rw [e2, dn_succ (by omega)]
       congr 2
       exact Subtype.ext (by show p = N - 1 - (N - m); omega))
     rw [HD.out] at hR
     have hpi : ((p : Nat) : Int) < ((N : Nat) : Int) := by omega
     obtain ⟨b, off, rfl, y0⟩ := hx
     rw [e1]
     clear hp hlt e1
     gi_wp2
     refine hR.mono ?_
     rintro e W3 (⟨rfl, hJ3, hk3⟩ | ⟨rfl, hJx3⟩)
     · gi_wp2
       go_roundw
       case rel => exact ⟨p, by omega, rfl, hJ3, hk.trans hk3⟩
       case measure => (show ((p : Int) - 1 + 1).toNat < ((p : Int) + 1).toNat; omega)
     · gi_wp2
       refine bodyPost_ret (results_none rfl _ _ _) rfl ?_
       exact ⟨⟨_, rfl⟩, .inr ⟨_, trivial, hJx3⟩⟩
   · obtain rfl : m = 0 := by omega
     have e1 : ((0 : Nat) : Int) - 1 = -1 := by omega
     rw [e1]
     gi_wp2
     go_end0
     exact ⟨⟨_, rfl⟩, .inl ⟨_, rfl, by rw [Nat.sub_zero] at hJs; exact hJs⟩⟩

end Go.Proofs.YtdbgaccnejffpaaGreat.Paths
