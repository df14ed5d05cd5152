/-
  The walk of the landed reader's put. By an AI agent.
-/
import Derived.Test.YthcbgneoonekkaaGreatDoorGShowBack23
import Derived.Deep.RegionLaw
import Derived.Deep.AppendLies
import Derived.Deep.DrawnRows
namespace Go.Proofs.YthcbgneoonekkaaGreatDoor.Parse
open Go.RowKit Go.Proofs.YthcbgneoonekkaaGreatDoor.Ints Go.Proofs.YthcbgneoonekkaaGreatDoor.Lex Go.Proofs.YthcbgneoonekkaaGreatDoor.Tree
attribute [local go_sem ↓] Go.wp_at_zero Go.wp_at_succ

theorem infoInt : (Tryz.prog.info? 3).map (fun i => (i.zero, i.size, i.bytes)) = some (some (.int .i64 0), 1, 8) := by kernel_rfl
theorem infoEnt : (Tryz.prog.info? 69).map (fun i => (i.zero, i.size, i.bytes)) = some (some (.agg #[.int .i64 0, .int .i64 0, .int .i64 0, .int .i64 0, .int .i64 0, .string { data := #[] }, .bool false, .int .i64 0]), 8, 72) := by kernel_rfl
theorem own_sliceN {w : World} {base : Nat} {e : TypeId} {size : Nat} {v : Value} {n : Nat} {xs : List Value} (h : w.ownsRow base e size v n xs) : ∃ A c, v = .slice A n c ∧ n ≤ c ∧ c ≤ maxLen ∧ (A = none → c = 0) ∧ (∀ a, A = some a → base ≤ a.block ∧ a.block < w.heap.size) := by
  have hlt := h.lt
  rcases h.2 with ⟨rfl, rfl⟩ | ⟨g, cap, cur, rfl, _, _, h3, h4, _⟩
  · exact ⟨none, 0, rfl, Nat.le_refl _, (by decide), (fun _ => rfl), (fun a h => by cases h)⟩
  · exact ⟨_, cap, rfl, h3, h4, (fun h => by cases h), (fun a h => by injection h with h; subst h; exact hlt g rfl)⟩
/-- What the reader needs to be of use. -/
def RootsOk (σ : PS) : Prop := σ.roots.length ≤ 100000 ∧ σ.nodes.length ≤ 100000 ∧ ∀ z ∈ σ.roots, 0 ≤ z ∧ z ≤ 1000000
theorem PMem.rts_rd {S : Nat → Prop} {w : World} {base g : Nat} {ts : List Tk} {tv ov nv : Value} {A : Option Addr} {n c : Nat} {SN : List SNd} {σ : PS} (h : PMem S w base g ts tv ov nv (.slice A n c) SN σ) (hr : RootsOk σ) (hn : σ.roots.length = n) : Rd .i64 w A n σ.roots.reverse := by
  have h1 := h.rts
  rw [hn] at h1
  refine Rd.own h1 fun z hz => ?_
  have := hr.2.2 z (List.mem_reverse.1 hz)
  simp [Lit.wf, IntKind.min, IntKind.max, IntKind.signed, IntKind.bits]
  omega

theorem made_row (w : World) (o : Obj) : ((w.alloc o).alloc (.cells #[] 3)).ownsRow (w.heap.size + 1) 3 1 (.slice (some ⟨w.heap.size + 1, 0, none⟩) 0 0) 0 (([] : List Int).map (Value.int .i64)) := by
  have := World.ownsRow_made (w.alloc o) #[] 0 (base := w.heap.size + 1) (e := 3) (size := 1) (by simp) (by decide) rfl
  simpa using this

theorem size_one (w : World) (o : Obj) : w.heap.size ≤ (w.alloc o).drew.heap.size := (((Below.refl _ _).alloc (Nat.le_refl _) o).drew).size
theorem one_cells (n : Nd) (A : Option Addr) (k c : Nat) : ∀ u ∈ [.int .i64 n.kind, .string n.name, .int .i64 n.lo, .int .i64 n.hi, Value.slice A k c], u.oneCell' = true := by
  intro u hu
  simp only [List.mem_cons, List.not_mem_nil, or_false] at hu
  rcases hu with rfl | rfl | rfl | rfl | rfl <;> rfl
/-- The kids' row of a node that is being made. -/
structure KidAt (w : World) (base : Nat) (A : Option Addr) (k c : Nat) (ks : List Int) : Prop where
  row : w.ownsRow base 3 1 (.slice A k c) k (ks.map (Value.int .i64))
  le : k ≤ c
  mx : c ≤ maxLen
theorem KidAt.later {w w' : World} {base : Nat} {A : Option Addr} {k c : Nat} {ks : List Int} (h : KidAt w base A k c ks) (hb : Below w.heap.size w w') : KidAt w' base A k c ks := ⟨below_row h.row hb, h.le, h.mx⟩
theorem KidAt.alloc {w : World} {base : Nat} {A : Option Addr} {k c : Nat} {ks : List Int} (h : KidAt w base A k c ks) (o : Obj) : KidAt (w.alloc o).drew base A k c ks := h.later ((Below.refl _ _).alloc (Nat.le_refl _) o).drew
theorem KidAt.grown {w w' : World} {base : Nat} {A : Option Addr} {k c : Nat} {ks : List Int} {row : Option Nat} (h : KidAt w base A k c ks) (hg : w.grownBy w' row) (hne : ∀ a, A = some a → some a.block ≠ row) : KidAt w' base A k c ks :=
  ⟨h.row.kept hg (by cases A with | none => exact Or.inl rfl | some a => exact Or.inr (hne a rfl)), h.le, h.mx⟩
theorem KidAt.other {w : World} {base : Nat} {A : Option Addr} {k c : Nat} {ks : List Int} (h : KidAt w base A k c ks) (p : Addr) (u : Value) (hne : ∀ a, A = some a → a.block ≠ p.block) : KidAt (w.setCell p u) base A k c ks :=
  h.grown (row := some p.block) ⟨rfl, rfl, rfl, by simp, fun i _ hi => Below.heap_setCell w p u i (fun e => hi (by rw [e]))⟩ (fun a ha e => hne a ha (by injection e))
theorem KidAt.ok {w : World} {base : Nat} {A : Option Addr} {k c : Nat} {n : Nd} (h : KidAt w base A k c n.kids) (hk : n.kids.length = k) (hz : ∀ z ∈ n.kids, 0 ≤ z ∧ z ≤ 1000000) (hn : small64 n.kind ∧ small64 n.lo ∧ small64 n.hi ∧ n.name.size ≤ maxLen) {S : Nat → Prop} (hS : ∀ a, A = some a → S a.block) : KidOk S w (n, A, c) := by
  refine ⟨⟨hn.1, hn.2.1, hn.2.2.1, hn.2.2.2, ?_, by rw [hk]; exact h.le, h.mx⟩, fun a ha _ => hS a ha⟩
  rw [hk]
  refine Rd.own h.row fun z hz' => ?_
  have := hz z hz'
  simp [Lit.wf, IntKind.min, IntKind.max, IntKind.signed, IntKind.bits]
  omega

set_option maxHeartbeats 8000000 in
set_option maxRecDepth 100000 in
theorem landPut (bx : Option Nat) (base g : Nat) (ts : List Tk) (σ : PS) (n : Nd) (k : Nat) (w : World) (hlow : Low bx w) (h : PMemE (Aw bx) w base g ts σ) (hR : RootsOk σ) (hk : k ≤ σ.roots.length)
    (hn : small64 n.kind ∧ small64 n.lo ∧ small64 n.hi ∧ n.name.size ≤ maxLen) :
    Calls Tryz.prog 80 #[.pointer (some ⟨g, 0, none⟩), .agg #[.int .i64 n.kind, .string n.name, .int .i64 n.lo, .int .i64 n.hi, .slice none 0 0], .int .i64 (k : Int)] w fun e w' => e = .returned (.tuple #[]) ∧ PMemE (Aw bx) w' base g ts (putM n k σ) ∧ Fr bx base w w' := by
  obtain ⟨i0, hi0, hz0, hz1, hz2⟩ := info_parts infoInt
  obtain ⟨i1, hi1, hy0, hy1, hy2⟩ := info_parts infoNode
  obtain ⟨tv, ov, nv, rv, SN, h⟩ := h
  obtain ⟨A, c, rfl, hc1, hc2, hc3, hc4⟩ := own_sliceN h.rts
  obtain ⟨B, d, rfl, hd1, hd2, hd3, hd4⟩ := own_sliceN h.nds.1
  have hSN : SN.length = σ.nodes.length := by rw [← h.ndl, List.length_map]
  obtain ⟨R, hRl⟩ : ∃ R, σ.roots.length = R := ⟨_, rfl⟩
  obtain ⟨N, hNl⟩ : ∃ N, σ.nodes.length = N := ⟨_, rfl⟩
  rw [hSN, hNl] at h hd1
  rw [hRl] at h hc1 hk
  obtain ⟨f, hf⟩ : ∃ f, f + k = R := ⟨R - k, by omega⟩
  have hR5 : (R : Int) ≤ 100000 := by have := hR.1; omega
  have hN5 : (N : Int) ≤ 100000 := by have := hR.2.1; omega
  have he : (R : Int) - (k : Int) = (f : Int) := by omega
  have hf0 : (0 : Int) ≤ (f : Int) := by omega
  have hfR : (f : Int) ≤ (R : Int) := by omega
  have hfc : (f : Int) ≤ (c : Int) := by omega
  have hRd := h.rts_rd hR hRl
  have hsl := fun W => slice_from (P := Tryz.prog) 32 Tryz.underlying32 1 (by kernel_rfl) A R c f (by omega) W
  have HLO := Lib.hid hlow
  have HM := Lib.hid h
  have HRL := Lib.hid hRl
  have HSN := Lib.hid (hSN.trans hNl)
  have HNL := Lib.hid hNl
  have HRO := Lib.hid hR
  have HNO := Lib.hid hn
  have HRD := Lib.hid hRd
  have HF := Lib.hid (show f + k = R ∧ R ≤ c ∧ c ≤ maxLen ∧ N ≤ d ∧ d ≤ maxLen from ⟨hf, hc1, hc2, hd1, hd2⟩)
  obtain ⟨A2, hA2⟩ : ∃ A2, fromAddr A c f 1 = A2 := ⟨_, rfl⟩
  rw [hA2] at hsl
  have HA2 := Lib.hid hA2
  have c6 := fun o => (h.blk.alloc o).cell 6 rfl
  have c66 := fun o o' => ((h.blk.alloc o).alloc o').cell 6 rfl
  have HRF := Lib.hid (fun o o' => ((Tree.Rd.from hRd hc1 (show f ≤ R by omega)).alloc o).alloc o')
  have hRk : R - f = k := by omega
  rw [hA2, hRk] at HRF
  rw [hRk] at hsl
  clear hlow h hR hn hRd hf hc1 hc2 hc3 hc4 hd1 hd2 hd3 hd4 hA2 hk
  go_enter Tryz.func80, Tryz.ntmps80
  go_wp2_with (at_builtin; refine wpList_append_ints rfl (.tmp 14) (.tmp 20) 32 rfl .i64 (w.heap.size + 1) 3 i0 8 Tryz.underlying32 hi0 hz0 hz1 hz2 (.slice (some ⟨w.heap.size + 1, 0, none⟩) 0 0) 0 [] rfl (made_row w _) A2 k (c - f) (σ.roots.reverse.drop f) rfl (HRF.out _ _) (by have := HF.out; omega) (by have := HF.out; omega) (by simp) ?_; intro v2 w2 hown2 hgr2; rw [Nat.zero_add] at hown2; obtain ⟨A3, c3, e3, hq1, hq2, hq3, hq4⟩ := own_sliceN hown2; subst e3; have hbx := ((Blk.new w #[.int .i64 n.kind, .string n.name, .int .i64 n.lo, .int .i64 n.hi, .slice none 0 0] 42 _ rfl).alloc (.cells #[] 3)).grown hgr2 (fun e => by have e : some w.heap.size = some (w.heap.size + 1) := e; injection e with e; omega); have b4 := hbx.cell 4 rfl; have g4 := hbx.fz 4 rfl)
  have hbw : Below w.heap.size w w2 := (((Below.refl _ _).alloc (Nat.le_refl _) _).alloc (by simp) _).grown hgr2 (by simp; omega) (fun b hb => by have hb : some (w.heap.size + 1) = some b := hb; injection hb with hb; omega)
  have hM2 := HM.out.later hbw
  have hkr := hown2.kept (w' := w2.setCell ⟨w.heap.size, 4, none⟩ (.slice A3 k c3)) (row := some w.heap.size) ⟨rfl, rfl, rfl, by simp, fun i _ hne => Below.heap_setCell w2 ⟨w.heap.size, 4, none⟩ _ i (fun e => hne (by rw [e]))⟩ (Or.inr fun e => by have := (hown2.lt _ e).1; omega)
  have hM3 := HM.out.later (hbw.setCell (p := ⟨w.heap.size, 4, none⟩) (Nat.le_refl _) (.slice A3 k c3))
  have hbx3 := hbx.set 4 (.slice A3 k c3) (by simp)
  have hb3 := hbw.setCell (p := ⟨w.heap.size, 4, none⟩) (Nat.le_refl _) (.slice A3 k c3)
  have hsz : w.heap.size + 2 ≤ w2.heap.size := by have := hgr2.size; simp at this; omega
  have hsz3 : (w2.setCell ⟨w.heap.size, 4, none⟩ (.slice A3 k c3)).heap.size = w2.heap.size := by simp
  obtain ⟨W, hW⟩ : ∃ W, w2.setCell ⟨w.heap.size, 4, none⟩ (.slice A3 k c3) = W := ⟨_, rfl⟩
  rw [hW] at hkr hM3 hbx3 hb3 hsz3 ⊢
  rw [← hsz3] at hsz hq4
  simp only [List.set, List.nil_append] at hbx3 hkr
  have hdr : σ.roots.reverse.drop f = (σ.roots.take k).reverse := by rw [List.drop_reverse, HRL.out, show R - f = k by have := HF.out; omega]
  rw [hdr] at hkr
  have HKR := Lib.hid hkr
  have HM3 := Lib.hid hM3
  have HBX := Lib.hid hbx3
  have HB3 := Lib.hid hb3
  have HSZ := Lib.hid hsz
  have HQ := Lib.hid (And.intro hq1 (And.intro hq2 hq4))
  have HM4 := Lib.hid (hM3.later (((Below.refl _ _).alloc (Nat.le_refl _) (.cells #[.int .i64 (N : Int)] 3)).drew))
  have HRO3 := Lib.hid (own_take (k := f) (n := R) (size := 1) (ys := (σ.roots.drop k).reverse.map (Value.int .i64)) (by have := HM4.out.rts; rw [HRL.out] at this; exact this) (by have := HF.out; omega) (by
    have e1 : (σ.roots.drop k).reverse = σ.roots.reverse.take f := by rw [List.take_reverse, HRL.out]; congr 1; congr 1; have := HF.out; omega
    rw [e1, Nat.mul_one, List.map_take]))
  have HSM5 := Lib.hid (show N + 1 ≤ maxLen ∧ (N + 1) * 64 ≤ 140737488355328 by have : maxLen = 9223372036854775807 := rfl; omega)
  have HSM := Lib.hid (show f + 1 ≤ maxLen ∧ (f + 1) * 8 ≤ 140737488355328 by have : maxLen = 9223372036854775807 := rfl; omega)
  have HNB := Lib.hid (show (W.alloc (.cells #[.int .i64 (N : Int)] 3)).drew.heap[W.heap.size]? = some (.cells #[.int .i64 (N : Int)] 3 (0, 0)) from heap_alloc_new W _)
  have d5 := hM3.blk.cell 5 rfl
  have d6 := hM3.blk.cell 6 rfl
  have g6 := hM3.blk.fz 6 rfl
  have a5 := fun o => (hM3.blk.alloc o).cell 5 rfl
  have a6 := fun o => (hM3.blk.alloc o).cell 6 rfl
  clear hbw hM2 hkr hM3 hbx3 hb3 hsz hsz3 hW hbx b4 g4 hgr2 hown2 hq1 hq2 hq3 hq4 c6 c66 hsl w2
  go_region_law
    (first
      | (refine step_append_lies (w := (W.alloc (.cells #[.int .i64 (N : Int)] 3)).drew) rfl (.tmp 29) (.tmp 35) 32 rfl base 3 i0 _ 1 8 Tryz.underlying32 hi0 hz0 hz1 hz2 rfl (by decide) (.slice A f c) f _ (by rfl) HRO3.out ⟨W.heap.size, 0, none⟩ 1 1 [.int .i64 (N : Int)] (by rfl) rfl (World.news_of_block (HNB.out)) (fun u hu => by rw [List.mem_singleton.1 hu]; rfl) (by decide) HSM.out.1 HSM.out.2 HM4.out.hb _ rfl ?_; intro q cap w4 hown4 hgr4 hq4 hlt4; rw [own_same A f R c] at hgr4 hq4; have k6 := (HM4.out.blk.grown hgr4 (fun e => HM4.out.rg e.symm)).cell 6 rfl; have y6 := (HM4.out.blk.grown hgr4 (fun e => HM4.out.rg e.symm)).fz 6 rfl))
  all_goals
    have hr5 : (((N : Int) :: σ.roots.drop k).reverse.map (Value.int .i64)) = (σ.roots.drop k).reverse.map (Value.int .i64) ++ [.int .i64 (N : Int)] := by simp
    have hM5 := HM4.out.root (HLO.out.mono (Nat.le_trans HB3.out.size (size_one _ _))) ((N : Int) :: σ.roots.drop k) (by rw [hr5]; exact hown4) (by rw [List.length_cons, List.length_drop, HRL.out]; have := HF.out; omega) hgr4 (hq4.imp id id)
    have hB5 := (((HBX.out.alloc (.cells #[.int .i64 (N : Int)] 3)).drew.grown hgr4 (fun e => by have := (HM.out.rts.lt _ e.symm).2; omega)).other ⟨g, 6, none⟩ (.slice (some ⟨q, 0, none⟩) (f + 1) cap) (fun e => by have := HM.out.blk.1; have e : w.heap.size = g := e; omega))
    have hk5 := ((KidAt.alloc (KidAt.mk HKR.out HQ.out.1 HQ.out.2.1) (.cells #[.int .i64 (N : Int)] 3)).grown hgr4 (fun a ha e => by have := (HM.out.rts.lt _ e.symm).2; have := HQ.out.2.2 a ha; omega)).other ⟨g, 6, none⟩ (.slice (some ⟨q, 0, none⟩) (f + 1) cap) (fun a ha e => by have := HM.out.blk.1; have := HQ.out.2.2 a ha; have e : a.block = g := e; omega)
    have hbase := HM.out.hb
    have hsW := HB3.out.size
    have hb5 : Fr bx base w (w4.setCell ⟨g, 6, none⟩ (.slice (some ⟨q, 0, none⟩) (f + 1) cap)) := ((((Fr.later HB3.out hbase).alloc (Nat.le_trans hbase hsW) (.cells #[.int .i64 (N : Int)] 3))).grown hgr4 (Nat.le_trans (Nat.le_trans hbase hsW) (size_one _ _)) (fun b hb => (HM.out.rts.lt b hb).1) (fun b hb => HM.out.sr b hb)).setCell (p := ⟨g, 6, none⟩) HM.out.hg HM.out.sg _
    have hnb : noneOr (some q) (A3.map (·.block)) := by
      cases hA3 : A3 with
      | none => exact Or.inr (fun e => by cases e)
      | some a =>
        refine Or.inr fun e => ?_
        have h1 := HQ.out.2.2 a hA3
        have h2 := (HKR.out.lt a.block (by rw [hA3]; rfl)).2
        have e : q = a.block := by simpa using e
        have h3 : W.heap.size + 1 = (W.alloc (.cells #[.int .i64 (N : Int)] 3)).drew.heap.size := by
          show _ = (W.alloc (.cells #[.int .i64 (N : Int)] 3)).heap.size
          simp
        rcases hq4 with hq4 | hq4
        · have := (HM.out.rts.lt q hq4).2; omega
        · omega
    obtain ⟨V, hV⟩ : ∃ V, w4.setCell ⟨g, 6, none⟩ (.slice (some ⟨q, 0, none⟩) (f + 1) cap) = V := ⟨_, rfl⟩
    rw [hV] at hM5 hB5 hk5 hb5 ⊢
    have HM5 := Lib.hid hM5
    have HB5 := Lib.hid hB5
    have HK5 := Lib.hid hk5
    have HBB := Lib.hid hb5
    have HNB5 := Lib.hid hnb
    have e5 := hM5.blk.cell 5 rfl
    have h5 := hM5.blk.fz 5 rfl
    have a5' := fun o => (hM5.blk.alloc o).cell 5 rfl
    have x0 := hB5.cell 0 rfl
    have x1 := hB5.cell 1 rfl
    have x2 := hB5.cell 2 rfl
    have x3 := hB5.cell 3 rfl
    have x4 := hB5.cell 4 rfl
    have HMX := Lib.hid (fun o => (hM5.later (((Below.refl _ _).alloc (Nat.le_refl _) o).drew)))
    have HNX := Lib.hid (show (V.alloc (.cells #[.int .i64 n.kind, .string n.name, .int .i64 n.lo, .int .i64 n.hi, .slice A3 k c3] 42)).drew.heap[V.heap.size]? = some (.cells #[.int .i64 n.kind, .string n.name, .int .i64 n.lo, .int .i64 n.hi, .slice A3 k c3] 42 (0, 0)) from heap_alloc_new V _)
    clear hr5 hM5 hB5 hk5 hb5 hnb hV hown4 hgr4 hq4 hlt4 k6 y6 a5 a6 d5 d6 g6 hbase hsW w4
    have HNR := Lib.hid (show (V.alloc (.cells #[.int .i64 n.kind, .string n.name, .int .i64 n.lo, .int .i64 n.hi, .slice A3 k c3] 42)).drew.ownsRow base 42 5 (.slice B N d) N (rowS SN) by have := (HMX.out (.cells #[.int .i64 n.kind, .string n.name, .int .i64 n.lo, .int .i64 n.hi, .slice A3 k c3] 42)).nds.1; rw [HSN.out] at this; exact this)
    go_wp2_with fail
    go_region_law
      (first
        | (refine step_append_lies (w := (V.alloc (.cells #[.int .i64 n.kind, .string n.name, .int .i64 n.lo, .int .i64 n.hi, .slice A3 k c3] 42)).drew) rfl (.tmp 43) (.tmp 45) 23 rfl base 42 i1 _ 5 64 Tryz.underlying23 hi1 hy0 hy1 hy2 rfl (by decide) (.slice B N d) N _ (by rfl) HNR.out ⟨V.heap.size, 0, none⟩ 1 1 [.int .i64 n.kind, .string n.name, .int .i64 n.lo, .int .i64 n.hi, .slice A3 k c3] (by rfl) rfl (World.news_of_block (HNX.out)) (one_cells n A3 k c3) (by decide) HSM5.out.1 HSM5.out.2 (HMX.out _).hb _ rfl ?_; intro q2 cap2 w5 hown5 hgr5 hq5 hlt5; have k5 := ((HMX.out _).blk.grown hgr5 (fun e => (HMX.out (.cells #[] 3)).ng e.symm)).cell 5 rfl; have y5 := ((HMX.out _).blk.grown hgr5 (fun e => (HMX.out (.cells #[] 3)).ng e.symm)).fz 5 rfl))
    all_goals
      go_wp2_with fail
      go_end0
      have hsV : (V.alloc (.cells #[.int .i64 n.kind, .string n.name, .int .i64 n.lo, .int .i64 n.hi, .slice A3 k c3] 42)).drew.heap.size = V.heap.size + 1 := by
        show (V.alloc (.cells #[.int .i64 n.kind, .string n.name, .int .i64 n.lo, .int .i64 n.hi, .slice A3 k c3] 42)).heap.size = _
        simp
      have hkok : KidOk (fun b => (Off3 g ov (.slice (some ⟨q, 0, none⟩) (f + 1) cap) b ∧ Aw bx b) ∧ some b ≠ (Value.slice B N d).ownBlock) (V.alloc (.cells #[.int .i64 n.kind, .string n.name, .int .i64 n.lo, .int .i64 n.hi, .slice A3 k c3] 42)).drew ({ n with kids := (σ.roots.take k).reverse }, A3, c3) := by
        refine ((HK5.out.alloc (.cells #[.int .i64 n.kind, .string n.name, .int .i64 n.lo, .int .i64 n.hi, .slice A3 k c3] 42)).ok (n := { n with kids := (σ.roots.take k).reverse }) ?_ ?_ HNO.out ?_)
        · show (σ.roots.take k).reverse.length = k
          rw [List.length_reverse, List.length_take, HRL.out]
          have := HF.out; omega
        · intro z hz
          exact HRO.out.2.2 z (List.mem_of_mem_take (List.mem_reverse.1 hz))
        · intro a ha
          have h1 := HQ.out.2.2 a ha
          have hg := HM.out.blk.1
          refine ⟨⟨⟨by omega, fun e => by have := (HM.out.opn.lt _ e.symm).2; omega, fun e => ?_⟩, fun e => by have := HLO.out _ e.symm; omega⟩, fun e => by have := (HM.out.nds.1.lt _ e.symm).2; omega⟩
          have e : a.block = q := by simpa [Value.ownBlock] using e
          rcases HNB5.out with h | h
          · cases h
          · exact h (by rw [ha]; simp [e])
      have hnode := (HMX.out (.cells #[.int .i64 n.kind, .string n.name, .int .i64 n.lo, .int .i64 n.hi, .slice A3 k c3] 42)).nds
      have hgrow := own_grown (S := fun b => Off3 g ov (.slice (some ⟨q, 0, none⟩) (f + 1) cap) b ∧ Aw bx b) (v' := .slice (some ⟨q2, 0, none⟩) (N + 1) cap2) (τ := [({ n with kids := (σ.roots.take k).reverse }, A3, c3)]) (fun s hs => hnode.2 s hs) (fun s hs => by rw [List.mem_singleton.1 hs]; exact hkok) (by
        rw [rowS_append, List.length_append, HSN.out]
        have e : rowS [(({ n with kids := (σ.roots.take k).reverse } : Nd), A3, c3)] = [.int .i64 n.kind, .string n.name, .int .i64 n.lo, .int .i64 n.hi, .slice A3 k c3] := by
          simp only [rowS, List.flatMap_cons, List.flatMap_nil, List.append_nil, cellsS]
          rw [List.length_reverse, List.length_take, HRL.out, Nat.min_eq_left (by have := HF.out; omega)]
        rw [e]
        exact hown5) hgr5 (hq5.elim (fun h => Or.inl (by rw [h]; rfl)) (fun h => Or.inr (by rw [h]; rfl)))
      refine ⟨rfl, ?_, ?_⟩
      · have hfin := (HMX.out (.cells #[.int .i64 n.kind, .string n.name, .int .i64 n.lo, .int .i64 n.hi, .slice A3 k c3] 42)).node (HLO.out.mono (Nat.le_trans HBB.out.below.size (size_one _ _))) ({ n with kids := (σ.roots.take k).reverse }, A3, c3) (q := q2) (cap := cap2) (by
          have : (SN ++ [(({ n with kids := (σ.roots.take k).reverse } : Nd), A3, c3)]).length = N + 1 := by rw [List.length_append, HSN.out]; rfl
          rw [this]
          exact hgrow) hgr5 hq5
        have hlen : (SN ++ [(({ n with kids := (σ.roots.take k).reverse } : Nd), A3, c3)]).length = N + 1 := by rw [List.length_append, HSN.out]; rfl
        rw [hlen] at hfin
        have hE : ∃ τ, PMemE (Aw bx) (w5.setCell ⟨g, 5, none⟩ (.slice (some ⟨q2, 0, none⟩) (N + 1) cap2)) base g ts τ ∧ τ = putM n k σ := ⟨_, ⟨_, _, _, _, _, hfin⟩, by unfold putM; rw [HNL.out]⟩
        obtain ⟨τ, h1, h2⟩ := hE
        rw [← h2]
        exact h1
      · have hbase := HM.out.hb
        have hsV2 : base ≤ V.heap.size := Nat.le_trans hbase HBB.out.below.size
        exact (((HBB.out.alloc hsV2 (.cells #[.int .i64 n.kind, .string n.name, .int .i64 n.lo, .int .i64 n.hi, .slice A3 k c3] 42)).grown hgr5 (Nat.le_trans hsV2 (size_one _ _)) (fun b hb => (HM.out.nds.1.lt b hb).1) (fun b hb => HM.out.sn b hb)).setCell (p := ⟨g, 5, none⟩) HM.out.hg HM.out.sg _)
end Go.Proofs.YthcbgneoonekkaaGreatDoor.Parse
