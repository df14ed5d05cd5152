/-
  The landed row, step (stage 14). By an AI agent.
-/
import Derived.Test.YtcpmcgbjmncalaaGPathsUnion27
import Derived.Deep.RegionHeld3
namespace Go.Proofs.Ytcpmcgbjmncalaa.Paths
open Go.RowKit Go.Proofs.Ytcpmcgbjmncalaa.Ints Go.Proofs.Ytcpmcgbjmncalaa.Mem Go.Proofs.Ytcpmcgbjmncalaa.Src Go.Proofs.Ytcpmcgbjmncalaa.Tree Go.Proofs.Ytcpmcgbjmncalaa.BitsWalks Go.Proofs.Ytcpmcgbjmncalaa.RdW Go.Proofs.Ytcpmcgbjmncalaa.Words

/-- A row of bools. -/
def rowB (n : Nat) (f : Nat → Bool) : List Value := (List.range n).map fun j => .bool (f j)
theorem rowB_len (n : Nat) (f : Nat → Bool) : (rowB n f).length = n := by simp [rowB]
theorem rowB_at {n : Nat} {f : Nat → Bool} {j : Nat} (h : j < n) : (rowB n f)[j]? = some (.bool (f j)) := by
  unfold rowB
  rw [List.getElem?_map, List.getElem?_range h]
  rfl
theorem rowB_none {n : Nat} {f : Nat → Bool} {j : Nat} (h : ¬ j < n) : (rowB n f)[j]? = none := List.getElem?_eq_none (by rw [rowB_len]; omega)
theorem rowB_next (n : Nat) (f : Nat → Bool) (i : Nat) : (rowB n (fun j => decide (j < i) && f j)).set i (.bool (f i)) = rowB n (fun j => decide (j < i + 1) && f j) := by
  apply List.ext_getElem?
  intro q
  rw [List.getElem?_set, rowB_len]
  by_cases hq : q < n
  · rw [rowB_at hq, rowB_at hq]
    by_cases e : i = q
    · subst e
      rw [if_pos rfl, if_pos hq, decide_eq_true (show i < i + 1 by omega), Bool.true_and]
    · rw [if_neg e]
      by_cases h2 : q < i
      · rw [decide_eq_true h2, decide_eq_true (show q < i + 1 by omega)]
      · rw [decide_eq_false h2, decide_eq_false (show ¬ q < i + 1 by omega)]
  · rw [rowB_none hq, rowB_none hq]
    by_cases e : i = q
    · rw [if_pos e, if_neg (by omega)]
    · rw [if_neg e]
theorem rowB_zero (n : Nat) (f : Nat → Bool) : rowB n (fun j => decide (j < 0) && f j) = List.replicate n (.bool false) := by
  unfold rowB
  rw [show (fun j => Value.bool (decide (j < 0) && f j)) = fun _ => Value.bool false from funext fun j => by simp, List.map_const', List.length_range]
theorem rowB_full (n : Nat) (f : Nat → Bool) : rowB n (fun j => decide (j < n) && f j) = rowB n f := by
  unfold rowB
  apply List.map_congr_left
  intro j hj
  show Value.bool (decide (j < n) && f j) = Value.bool (f j)
  rw [decide_eq_true (List.mem_range.1 hj), Bool.true_and]
/-- A set of one word. -/
theorem rd_one {w : World} {r x : Nat} (h : w.cell? ⟨r, 0, none⟩ = some (.int .u64 ((x : Nat) : Int))) (hx : x < 18446744073709551616) : RdW w (some ⟨r, 0, none⟩) 1 [x] := by
  refine ⟨rfl, fun j hj => ?_, fun _ => ⟨r, 0, rfl, fun j hj => ?_⟩⟩
  · obtain rfl : j = 0 := by omega
    exact word_wf hx
  · obtain rfl : j = 0 := by omega
    exact h
set_option maxHeartbeats 4000000 in
set_option maxRecDepth 100000 in
theorem landRow (r x nv : Nat) (w : World) (hc : w.cell? ⟨r, 0, none⟩ = some (.int .u64 ((x : Nat) : Int))) (hx : x < 18446744073709551616) (hnv : nv ≤ 1000000) :
    Calls Try.prog 33 #[.slice (some ⟨r, 0, none⟩) 1 1, .int .i64 (nv : Nat)] w fun e w' => ∃ B, e = .returned (.slice (some ⟨B, 0, none⟩) nv nv) ∧ w'.ownsRow w.heap.size 4 1 (.slice (some ⟨B, 0, none⟩) nv nv) nv (rowB nv (fun j => hasI [x] ((j : Nat) : Int))) ∧ Below w.heap.size w w' := by
  have q63 : maxLen = 9223372036854775807 := rfl
  obtain ⟨i1, hi1, hy0, hy1, hy2⟩ := info_parts infoBl
  have b2 : i1.bytes * nv ≤ 281474976710656 := by rw [hy2]; omega
  have b3 : nv ≤ maxLen := by omega
  have HR := Lib.hid (rd_one hc hx)
  have HF := Lib.hid (show ∀ j, (fun j : Nat => hasI [x] ((j : Nat) : Int)) j = hasI [x] ((j : Nat) : Int) from fun _ => rfl)
  obtain ⟨f, hf⟩ : ∃ f : Nat → Bool, (fun j : Nat => hasI [x] ((j : Nat) : Int)) = f := ⟨_, rfl⟩
  have HFE := Lib.hid (show ∀ j : Nat, hasI [x] ((j : Nat) : Int) = f j from fun j => by rw [← hf])
  rw [hf]
  clear hc hf HF
  go_enter Try.func33, Try.ntmps33
  go_wp2_with (at_make; refine wpList_make_full _ rfl (.tmp 7) (.tmp 7) 44 rfl w.heap.size 4 i1 (.bool false) 1 Try.underlying44 hi1 hy0 hy1 .i64 .i64 _ _ nv rfl rfl rfl rfl b2 b3 (Nat.le_refl _) ?_; intro w1 hmade hgr1; rw [made_bools] at hmade)
  have HM := Lib.hid hmade
  have HG := Lib.hid hgr1
  clear hmade hgr1
  go_loopw [11] (fun v wr => ∃ (i : Nat), v = .int .i64 (i : Nat) ∧ i ≤ nv ∧ wr.ownsRow w.heap.size 4 1 (.slice (some ⟨w.heap.size, 0, none⟩) nv nv) nv (rowB nv (fun j => decide (j < i) && f j)) ∧ Below w.heap.size w wr) (fun v _ => nv - (intOf v).toNat)
  case atStart => exact ⟨0, rfl, Nat.zero_le _, by rw [rowB_zero]; exact HM.out, ⟨HG.out.os, HG.out.tape, HG.out.output, HG.out.size, fun k hk => HG.out.block k hk (by simp)⟩⟩
  case round =>
    obtain ⟨i, rfl, hin, hout, hB⟩ := hrel
    have HO := Lib.hid hout
    have HB := Lib.hid hB
    by_cases hlt : i < nv
    · have c0 := hout.cells (g := w.heap.size) rfl i _ (rowB_at hlt)
      rw [Addr.add_lit, Nat.zero_add] at c0
      have f0 := own_fz hout i
      have HH := Lib.hid (has_ (some ⟨r, 0, none⟩) 1 1 [x] wr ((i : Nat) : Int) (by omega) (HR.out.below HB.out))
      rw [HFE.out i] at HH
      have HN := Lib.hid (own_put (k := i) hout (.bool (f i)))
      rw [rowB_next] at HN
      have HBN := Lib.hid (hB.setCell (p := ⟨w.heap.size, i, none⟩) (Nat.le_refl _) (.bool (f i)))
      obtain ⟨fi, hfi⟩ : ∃ b, f i = b := ⟨_, rfl⟩
      rw [hfi] at HH HN HBN
      clear hout hB hfi
      go_wp2_with (go_at_call 50; refine HH.out.mono ?_; rintro e w2 ⟨rfl, rfl⟩)
      go_roundw
      case rel => exact ⟨i + 1, by simp, by omega, HN.out, HBN.out⟩
      case measure => (show nv - (i + 1) < nv - i; omega)
    · obtain rfl : i = nv := by omega
      have HN := Lib.hid hout
      rw [rowB_full] at HN
      clear hout hB
      go_wp2_with fail
      go_ret
      exact ⟨w.heap.size, rfl, HN.out, HB.out⟩
/-- clear of one word. -/
theorem run_clear_one (w : World) (r x : Nat) (hc : w.cell? ⟨r, 0, none⟩ = some (.int .u64 ((x : Nat) : Int))) (hf : w.frozen? ⟨r, 0, none⟩ = false) (ty : TypeId) :
    (Builtin.clear_ #[35] ty #[.slice (some ⟨r, 0, none⟩) 1 1]).run Try.prog w = .ok (.tuple #[]) (w.setCell ⟨r, 0, none⟩ (.int .u64 0)) := by
  obtain ⟨i1, hi1, hy0, hy1, hy2⟩ := info_parts infoU
  have hz : (Builtin.zeroCells #[.int .u64 0] 1).toList = [.int .u64 0] := by simp [Builtin.zeroCells]
  have hs := Go.run_storeCells_cells (P := Try.prog) r 0 [.int .u64 0] 0 w (fun j hj => by
    have hj : j < 1 := hj
    obtain rfl : j = 0 := by omega
    exact Option.isSome_iff_exists.2 ⟨_, hc⟩) (fun j hj => by
    have hj : j < 1 := hj
    obtain rfl : j = 0 := by omega
    exact hf) (fun v hv => by rw [List.mem_singleton.1 hv]; rfl)
  have e : w.setCells r (0 + 0) [.int .u64 0] = w.setCell ⟨r, 0, none⟩ (.int .u64 0) := rfl
  rw [e] at hs
  have e0 : (Value.int .u64 0).cells = #[.int .u64 0] := rfl
  simp [Builtin.clear_, run_underlying Try.underlying35, zeroValue, typeInfo, hi1, hy0, e0, hz, hs]
theorem own_sl3 {w : World} {base : Nat} {e : TypeId} {size : Nat} {v : Value} {n : Nat} {xs : List Value} (h : w.ownsRow base e size v n xs) : ∃ A c, v = .slice A n c ∧ n ≤ c ∧ c ≤ maxLen ∧ (A = none → c = 0) ∧ (0 < n → ∃ r, A = some ⟨r, 0, none⟩) := by
  rcases h.2 with ⟨rfl, rfl⟩ | ⟨g, cap, cur, rfl, _, _, h3, h4, _⟩
  · exact ⟨none, 0, rfl, Nat.le_refl _, (by decide), (fun _ => rfl), (fun h => by omega)⟩
  · exact ⟨_, cap, rfl, h3, h4, (fun h => by cases h), (fun _ => ⟨g, rfl⟩)⟩
/-- What is known of the next point, at each place from which a step leads there. -/
def stepG (sp : List Ed) (h : Nat → Nat) : Nat → Nat := sp.foldl (fun g e => updS g e.1 (g e.1 ||| h e.2.1)) (fun _ => 0)
theorem stepG_snoc (sp : List Ed) (e : Ed) (h : Nat → Nat) : stepG (sp ++ [e]) h = updS (stepG sp h) e.1 (stepG sp h e.1 ||| h e.2.1) := by unfold stepG; rw [List.foldl_append]; rfl
theorem take_snoc {l : List Ed} {k : Nat} {e : Ed} (h : l[k]? = some e) : l.take (k + 1) = l.take k ++ [e] := by
  rw [List.take_add_one, h]
  rfl
def zeroTo (g : Nat → Nat) (k : Nat) : Nat → Nat := fun i => if i < k then 0 else g i
theorem zeroTo_next (g : Nat → Nat) (k i : Nat) : updS (zeroTo g k) k 0 i = zeroTo g (k + 1) i := by
  unfold updS zeroTo
  by_cases e : i = k
  · rw [if_pos e, if_pos (by omega)]
  · rw [if_neg e]
    by_cases h : i < k
    · rw [if_pos h, if_pos (by omega)]
    · rw [if_neg h, if_neg (by omega)]
theorem or_small {x y : Nat} (hx : x < 18446744073709551616) (hy : y < 18446744073709551616) : x ||| y < 18446744073709551616 := Nat.or_lt_two_pow (n := 64) hx hy
/-- The rows of some sets. -/
def InRows (R : Nat → Nat) (np : Nat) (q : Nat) : Prop := ∃ i, i < np ∧ q = R i
set_option maxHeartbeats 8000000 in
set_option maxRecDepth 100000 in
theorem landStep (lo lo2 gp np nt B1 B2 : Nat) (R1 R2 g h : Nat → Nat) (sv pv : Value) (st sp : List Ed) (w : World) (hG : GMem w lo gp sv pv np nt st sp) (hS : Sets w lo2 B1 R1 np 1 g) (hT : Sets w lo2 B2 R2 np 1 h)
    (hR : ∀ i j, i < np → j < np → R1 i ≠ R2 j) (hB1 : ∀ i, i < np → R1 i ≠ B2) (hgl : gp < lo2) (hpl : ∀ q, pv.ownBlock = some q → q < lo2) (hE : ∀ e ∈ sp, e.1 < np ∧ e.2.1 < np) (hnp : np ≤ 2000000) (hsl : sp.length ≤ 2000000) :
    Calls Try.prog 31 #[.pointer (some ⟨gp, 0, none⟩), .slice (some ⟨B1, 0, none⟩) np np, .slice (some ⟨B2, 0, none⟩) np np] w fun e w' =>
      e = .returned (.tuple #[]) ∧ Sets w' lo2 B1 R1 np 1 (stepG sp h) ∧ Left (InRows R1 np) w w' := by
  have hlt := hS.lt
  have hlt2 := hT.lt
  have hdn : ∀ q, InRows R1 np q → lo2 ≤ q ∧ q < w.heap.size := fun q ⟨i, hi, e⟩ => e ▸ hlt.2 i hi
  have HD := Lib.hid hdn
  have HP := Lib.hid hG
  have HT := Lib.hid (show ∀ W, Left (InRows R1 np) w W → Sets W lo2 B2 R2 np 1 h from fun W hl => hT.left hl (fun ⟨i, hi, e⟩ => hB1 i hi e.symm) (fun j hj ⟨i, hi, e⟩ => hR i j hi hj e.symm))
  have HPV := Lib.hid (show ∀ W, Left (InRows R1 np) w W → W.ownsRow lo 84 3 pv sp.length (rowEd sp) from fun W hl => own_same' hG.sps (fun q e => hl.block q (hG.sps.lt q e).2 (fun hd => by have := hdn q hd; have := hpl q e; omega)))
  have HGB := Lib.hid (show ∀ W, Left (InRows R1 np) w W → W.cell? ⟨gp, 3, none⟩ = some pv from fun W hl => (World.cell?_of_block (a := ⟨gp, 3, none⟩) (hl.block gp hG.blk.1 (fun hd => by have := hdn gp hd; omega))).trans (hG.blk.cell 3 rfl))
  have HBL := Lib.hid (And.intro hlt hlt2)
  have HE := Lib.hid hE
  have HH := Lib.hid hT.wd
  have HR := Lib.hid (And.intro hR hB1)
  obtain ⟨A, c, e, hc1, -, -, -⟩ := own_sl3 hG.sps
  have hnp' : ((np : Nat) : Int) ≤ 2000000 := by omega
  have hsl' : ((sp.length : Nat) : Int) ≤ 2000000 := by omega
  obtain ⟨N, hN⟩ : ∃ N, sp.length = N := ⟨_, rfl⟩
  rw [hN] at e hsl' HPV hsl
  subst e
  have HN := Lib.hid hN
  have HS := Lib.hid (hS.ext (g' := zeroTo g 0) (fun i _ => by unfold zeroTo; rw [if_neg (Nat.not_lt_zero i)]))
  clear hG hS hT hR hB1 hgl hpl hE hlt hlt2 hdn hc1 hN
  go_enter Try.func31, Try.ntmps31
  go_wp2_with fail
  go_loopw [12] (fun v wr => ∃ (i : Nat), v = .int .i64 (i : Nat) ∧ i ≤ np ∧ Sets wr lo2 B1 R1 np 1 (zeroTo g i) ∧ Left (InRows R1 np) w wr) (fun v _ => np - (intOf v).toNat)
  case atStart => exact ⟨0, rfl, Nat.zero_le _, HS.out, Left.refl _ _⟩
  case round =>
    obtain ⟨i, rfl, hin, hs, hL⟩ := hrel
    have HSi := Lib.hid hs
    have HL := Lib.hid hL
    by_cases hlt : i < np
    · have c0 := hs.outer hlt
      have c1 := hs.inner hlt
      have f1 := hs.fz hlt 0
      have hcl := fun ty => run_clear_one wr (R1 i) _ c1 f1 ty
      have HN2 := Lib.hid ((hs.set hlt 0 (by decide)).ext (fun j _ => zeroTo_next g i j))
      have HL2 := Lib.hid (hL.set ⟨R1 i, 0, none⟩ (.int .u64 0) ⟨i, hlt, rfl⟩)
      clear hs hL c1 f1
      go_wp2_with fail
      go_roundw
      case rel => exact ⟨i + 1, by simp, by omega, HN2.out, HL2.out⟩
      case measure => (show np - (i + 1) < np - i; omega)
    · obtain rfl : i = np := by omega
      have c3 := HGB.out wr HL.out
      have HS0 := Lib.hid (hs.ext (g' := stepG (sp.take 0) h) (fun j hj => by unfold zeroTo; rw [if_pos hj]; rfl))
      clear hs hL hin hlt
      go_wp2_with fail
      obtain ⟨wo, hwo⟩ : ∃ wo, wr = wo := ⟨_, rfl⟩
      subst hwo
      go_loopw [23] (fun v wr => ∃ (k : Nat), v = .int .i64 (k : Nat) ∧ k ≤ N ∧ Sets wr lo2 B1 R1 i 1 (stepG (sp.take k) h) ∧ Left (InRows R1 i) w wr) (fun v _ => N - (intOf v).toNat)
      case atStart => exact ⟨0, rfl, Nat.zero_le _, HS0.out, HL.out⟩
      case round =>
        obtain ⟨k, rfl, hkn, hs, hL⟩ := hrel
        have HL2 := Lib.hid hL
        by_cases hlt : k < N
        · obtain ⟨⟨u, v, t⟩, hed⟩ : ∃ ed, sp[k]? = some ed := ⟨_, List.getElem?_eq_getElem (by have := HN.out; omega)⟩
          obtain ⟨hu, hv⟩ := HE.out _ (List.mem_of_getElem? hed)
          have hu : u < i := hu
          have hv : v < i := hv
          have hpv := HPV.out wr HL2.out
          obtain ⟨A', c', e', -, -, -, hA⟩ := own_sl3 hpv
          obtain ⟨r, rfl⟩ : ∃ r, A = some ⟨r, 0, none⟩ := by
            injection e' with e1 e2 e3
            rw [e1]
            exact hA (by omega)
          obtain ⟨x0, x1, x2⟩ := rowEd_at hed
          have c0 := hpv.cells (g := r) rfl _ _ x0
          have c1 := hpv.cells (g := r) rfl _ _ x1
          have c2 := hpv.cells (g := r) rfl _ _ x2
          rw [Addr.add_lit, Nat.zero_add, Nat.mul_comm 3 k] at c0 c1 c2
          have hal : Below wr.heap.size wr (wr.alloc (.cells #[.int .i64 (u : Nat), .int .i64 (v : Nat), .int .i64 t] 84)) := (Below.refl _ _).alloc (Nat.le_refl _) _
          obtain ⟨V, hV⟩ : ∃ V, (wr.alloc (.cells #[.int .i64 (u : Nat), .int .i64 (v : Nat), .int .i64 t] 84)).drew = V := ⟨_, rfl⟩
          have hbV : Below wr.heap.size wr V := by rw [← hV]; exact hal.drew
          have hx : Blk V wr.heap.size [.int .i64 (u : Nat), .int .i64 (v : Nat), .int .i64 t] := by rw [← hV]; exact (Blk.new wr _ _ _ rfl).drew
          have hs1 := hs.below hbV
          have hl1 := HL2.out.trans (Left.of_below hbV)
          have ht1 := HT.out V hl1
          have hxl := hx.1
          have d0 := hx.cell 0 rfl
          have d1 := hx.cell 1 rfl
          have d2 := hs1.outer hu
          have d3 := ht1.outer hv
          have HADD := Lib.hid (landAdd (R1 u) (R2 v) _ _ V (hs1.inner hu) (hs1.fz hu 0) (ht1.inner hv) (hs1.wd u hu) (ht1.wd v hv))
          have HSV := Lib.hid ((hs1.set hu _ (or_small (hs1.wd u hu) (ht1.wd v hv))).ext (g' := stepG (sp.take (k + 1)) h) (fun j _ => by rw [take_snoc hed, stepG_snoc]))
          have HLV := Lib.hid (hl1.set ⟨R1 u, 0, none⟩ (.int .u64 ((stepG (sp.take k) h u ||| h v : Nat) : Int)) ⟨u, hu, rfl⟩)
          have hne1 : R1 u ≠ wr.heap.size := fun e => by have := (hs.lt.2 u hu).2; omega
          have hne2 : R1 u ≠ B1 := (hs.off u hu).1
          have hne3 : R1 u ≠ B2 := HR.out.2 u hu
          have HS1 := Lib.hid (show (∀ z : Value, ((V.setCell ⟨R1 u, 0, none⟩ z).cell? ⟨wr.heap.size, 0, none⟩ = some (.int .i64 (u : Nat)) ∧ (V.setCell ⟨R1 u, 0, none⟩ z).cell? ⟨wr.heap.size, 1, none⟩ = some (.int .i64 (v : Nat)) ∧ (V.setCell ⟨R1 u, 0, none⟩ z).cell? ⟨B1, u, none⟩ = some (.slice (some ⟨R1 u, 0, none⟩) 1 1) ∧ (V.setCell ⟨R1 u, 0, none⟩ z).cell? ⟨B2, v, none⟩ = some (.slice (some ⟨R2 v, 0, none⟩) 1 1))) from fun z => by
            have go : ∀ (q o : Nat) (y : Value), R1 u ≠ q → V.cell? ⟨q, o, none⟩ = some y → (V.setCell ⟨R1 u, 0, none⟩ z).cell? ⟨q, o, none⟩ = some y := fun q o y hq hy => (World.cell?_of_block (w := V) (a := ⟨q, o, none⟩) (Below.heap_setCell V _ z q (fun e => hq e.symm))).trans hy
            exact ⟨go _ _ _ hne1 d0, go _ _ _ hne1 d1, go _ _ _ hne2 d2, go _ _ _ hne3 d3⟩)
          have HS0' := Lib.hid (show V.cell? ⟨wr.heap.size, 0, none⟩ = some (.int .i64 (u : Nat)) ∧ V.cell? ⟨wr.heap.size, 1, none⟩ = some (.int .i64 (v : Nat)) ∧ V.cell? ⟨B1, u, none⟩ = some (.slice (some ⟨R1 u, 0, none⟩) 1 1) ∧ V.cell? ⟨B2, v, none⟩ = some (.slice (some ⟨R2 v, 0, none⟩) 1 1) from ⟨d0, d1, d2, d3⟩)
          have hui : ((u : Nat) : Int) < ((i : Nat) : Int) := by omega
          have hvi : ((v : Nat) : Int) < ((i : Nat) : Int) := by omega
          clear hs hL hpv hA e' x0 x1 x2 hal hbV hx hs1 hl1 ht1 hxl d0 d1 d2 d3 hne1 hne2 hne3 hed hu hv
          go_wp2_with fail
          refine wp_region_held_drew (S := fun W => W.cell? ⟨wr.heap.size, 0, none⟩ = some (.int .i64 (u : Nat)) ∧ W.cell? ⟨wr.heap.size, 1, none⟩ = some (.int .i64 (v : Nat)) ∧ W.cell? ⟨B1, u, none⟩ = some (.slice (some ⟨R1 u, 0, none⟩) 1 1) ∧ W.cell? ⟨B2, v, none⟩ = some (.slice (some ⟨R2 v, 0, none⟩) 1 1)) (by kernel_rfl) (by rw [hV]; exact HS0'.out) (fun hHeld => ?_)
          rw [hV] at hHeld ⊢
          refine wpAnyH_take (i := 0) (oi := ?tko1) (v := ?tkv1) ?tkh1 (by kernel_rfl) (by kernel_rfl) (by kernel_rfl) ?tkq1 ?tky1 hHeld ?tkr1
          case tkh1 => (simp only [List.getElem?_toArray, List.getElem?_cons_zero]; rfl)
          case tkq1 => exact fun _ _ _ h => h
          case tky1 => exact Or.inl ⟨by rfl, by intro wSw hSw; (try dsimp only at hSw); go_simp; try with_reducible rfl⟩
          try simp only [Act.put, List.setIfInBounds_toArray, List.set_cons_zero, List.set_cons_succ]
          refine wpAnyH_take (i := 1) (oi := ?tko2) (v := ?tkv2) ?tkh2 (by kernel_rfl) (by kernel_rfl) (by kernel_rfl) ?tkq2 ?tky2 hHeld ?tkr2
          case tkh2 => (simp only [List.getElem?_toArray, List.getElem?_cons_succ, List.getElem?_cons_zero]; rfl)
          case tkq2 => exact fun _ _ _ h => h
          case tky2 => exact Or.inl ⟨by rfl, by intro wSw hSw; (try dsimp only at hSw); go_simp; try with_reducible rfl⟩
          try simp only [Act.put, List.setIfInBounds_toArray, List.set_cons_zero, List.set_cons_succ]
          refine wpAnyH_take (i := 2) (oi := ?tko3) (v := ?tkv3) ?tkh3 (by kernel_rfl) (by kernel_rfl) (by kernel_rfl) ?tkq3 ?tky3 hHeld ?tkr3
          case tkh3 => (simp only [List.getElem?_toArray, List.getElem?_cons_succ, List.getElem?_cons_zero]; rfl)
          case tkq3 => exact fun _ _ _ h => h
          case tky3 => exact Or.inl ⟨by rfl, by intro wSw hSw; (try dsimp only at hSw); go_simp; try with_reducible rfl⟩
          try simp only [Act.put, List.setIfInBounds_toArray, List.set_cons_zero, List.set_cons_succ]
          refine wpAnyH_take (i := 3) (oi := ?tko4) (v := ?tkv4) ?tkh4 (by kernel_rfl) (by kernel_rfl) (by kernel_rfl) ?tkq4 ?tky4 hHeld ?tkr4
          case tkh4 => (simp only [List.getElem?_toArray, List.getElem?_cons_succ, List.getElem?_cons_zero]; rfl)
          case tkq4 => exact fun _ _ _ h => h
          case tky4 => exact Or.inl ⟨by rfl, by intro wSw hSw; (try dsimp only at hSw); go_simp; try with_reducible rfl⟩
          try simp only [Act.put, List.setIfInBounds_toArray, List.set_cons_zero, List.set_cons_succ]
          refine wpAnyH_take (i := 4) (oi := ?tko5) (v := ?tkv5) ?tkh5 (by kernel_rfl) (by kernel_rfl) (by kernel_rfl) ?tkq5 ?tky5 hHeld ?tkr5
          case tkh5 => (simp only [List.getElem?_toArray, List.getElem?_cons_succ, List.getElem?_cons_zero]; rfl)
          case tkq5 => exact fun _ _ _ h => h
          case tky5 => exact Or.inl ⟨by rfl, by intro wSw hSw; (try dsimp only at hSw); go_simp; try with_reducible rfl⟩
          try simp only [Act.put, List.setIfInBounds_toArray, List.set_cons_zero, List.set_cons_succ]
          refine wpAnyH_take (i := 5) (oi := ?tko6) (v := ?tkv6) ?tkh6 (by kernel_rfl) (by kernel_rfl) (by kernel_rfl) ?tkq6 ?tky6 hHeld ?tkr6
          case tkh6 => (simp only [List.getElem?_toArray, List.getElem?_cons_succ, List.getElem?_cons_zero]; rfl)
          case tkq6 => exact fun _ _ _ h => h
          case tky6 => exact Or.inl ⟨by rfl, by intro wSw hSw; (try dsimp only at hSw); go_simp; try with_reducible rfl⟩
          try simp only [Act.put, List.setIfInBounds_toArray, List.set_cons_zero, List.set_cons_succ]
          refine wpAnyH_take (i := 6) (oi := ?tko7) (v := ?tkv7) ?tkh7 (by kernel_rfl) (by kernel_rfl) (by kernel_rfl) ?tkq7 ?tky7 hHeld ?tkr7
          case tkh7 => (simp only [List.getElem?_toArray, List.getElem?_cons_succ, List.getElem?_cons_zero]; rfl)
          case tkq7 => exact fun _ _ _ h => h
          case tky7 => exact Or.inl ⟨by rfl, by intro wSw hSw; (try dsimp only at hSw); go_simp; try with_reducible rfl⟩
          try simp only [Act.put, List.setIfInBounds_toArray, List.set_cons_zero, List.set_cons_succ]
          refine wpAnyH_take (i := 7) (oi := ?tko8) (v := ?tkv8) ?tkh8 (by kernel_rfl) (by kernel_rfl) (by kernel_rfl) ?tkq8 ?tky8 hHeld ?tkr8
          case tkh8 => (simp only [List.getElem?_toArray, List.getElem?_cons_succ, List.getElem?_cons_zero]; rfl)
          case tkq8 => exact fun _ _ _ h => h
          case tky8 => exact Or.inl ⟨by rfl, by intro wSw hSw; (try dsimp only at hSw); go_simp; try with_reducible rfl⟩
          try simp only [Act.put, List.setIfInBounds_toArray, List.set_cons_zero, List.set_cons_succ]
          refine wpAnyH_take (i := 8) (oi := ?tko9) (v := ?tkv9) ?tkh9 (by kernel_rfl) (by kernel_rfl) (by kernel_rfl) ?tkq9 ?tky9 hHeld ?tkr9
          case tkh9 => (simp only [List.getElem?_toArray, List.getElem?_cons_succ, List.getElem?_cons_zero]; rfl)
          case tkq9 => exact fun _ _ _ h => h
          case tky9 => exact Or.inl ⟨by rfl, by intro wSw hSw; (try dsimp only at hSw); go_simp; try with_reducible rfl⟩
          try simp only [Act.put, List.setIfInBounds_toArray, List.set_cons_zero, List.set_cons_succ]
          refine wpAnyH_take (i := 9) (oi := ?tko10) (v := ?tkv10) ?tkh10 (by kernel_rfl) (by kernel_rfl) (by kernel_rfl) ?tkq10 ?tky10 hHeld ?tkr10
          case tkh10 => (simp only [List.getElem?_toArray, List.getElem?_cons_succ, List.getElem?_cons_zero]; rfl)
          case tkq10 => exact fun _ _ _ h => h
          case tky10 => exact Or.inl ⟨by rfl, by intro wSw hSw; (try dsimp only at hSw); go_simp; try with_reducible rfl⟩
          try simp only [Act.put, List.setIfInBounds_toArray, List.set_cons_zero, List.set_cons_succ]
          refine wpAnyH_ready (rs := [10]) (by kernel_rfl) (by simp) ?_
          refine AllReadyH.cons (o := ?tko11) ?tkh11 (fun Kt11 hKt11 => ?_) AllReadyH.nil
          case tkh11 => (simp only [List.getElem?_toArray, List.getElem?_cons_succ, List.getElem?_cons_zero]; rfl)
          go_simp
          (go_at_call 48; refine HADD.out.mono ?_; rintro e w2 ⟨rfl, rfl⟩)
          refine hKt11.out _ _ ?_ (fun hHt11 => ?_)
          · (exact HS1.out _)
          clear hKt11 Kt11 hHeld
          have hHeld := hHt11
          clear hHt11
          try simp only [Act.put, List.setIfInBounds_toArray, List.set_cons_zero, List.set_cons_succ]
          refine wpAnyH_done (by kernel_rfl) ?_ _
          clear hHeld
          go_wp2_with fail
          go_roundw
          case rel => exact ⟨k + 1, by simp, by omega, HSV.out, HLV.out⟩
          case measure => (show N - (k + 1) < N - k; omega)
        · obtain rfl : k = N := by omega
          have HF := Lib.hid (hs)
          rw [List.take_of_length_le (by have := HN.out; omega)] at HF
          clear hs hL
          go_wp2_with fail
          go_end0
          exact ⟨rfl, HF.out, HL2.out⟩
end Go.Proofs.Ytcpmcgbjmncalaa.Paths
