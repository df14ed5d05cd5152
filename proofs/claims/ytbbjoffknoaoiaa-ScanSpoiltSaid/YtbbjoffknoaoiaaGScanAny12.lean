/-
  slices.Equal over ids, and the reference's SameEvent. By an AI agent.
  The walks of the landed package record: summed, Put. By an AI agent.
  A block of memory, cell by cell. By an AI agent.
  The walks of the landed event and size. By an AI agent.
-/
import Derived.Test.YtbbjoffknoaoiaaGScanAny2
import Derived.Test.YtbbjoffknoaoiaaGScanAny11
import Derived.Test.YtbbjoffknoaoiaaGScanAny10
namespace Go.Proofs.Ytbbjoffknoaoiaa.Trace
open Go.RowKit Go.Proofs.Ytbbjoffknoaoiaa.Ints Go.Proofs.Ytbbjoffknoaoiaa.Mem

theorem equalInts (K1 K2 : Option Addr) (n1 c1 n2 c2 : Nat) (l1 l2 : List Int) (w : World) (h1 : Rd .i64 w K1 n1 l1) (h2 : Rd .i64 w K2 n2 l2) (hb1 : n1 ≤ maxLen) (hb2 : n2 ≤ maxLen) :
    Calls Try.prog 42 #[.slice K1 n1 c1, .slice K2 n2 c2] w fun e w' => e = .returned (.bool (decide (l1 = l2))) ∧ ∃ q, w' = w.drewN q := by
  have hm : maxLen = 9223372036854775807 := rfl
  by_cases hn : n1 = n2
  · subst hn
    by_cases h0 : n1 = 0
    · subst h0
      have e1 : l1 = [] := List.eq_nil_of_length_eq_zero h1.len
      have e2 : l2 = [] := List.eq_nil_of_length_eq_zero h2.len
      subst e1; subst e2
      exact (Try.slices_Equal_int_empty K1 K2 c1 0 c2 w (by omega)).mono fun e w' ⟨he, hw⟩ => ⟨he, 0, hw⟩
    · obtain ⟨b1, o1, rfl, k1⟩ := h1.cell (by omega)
      obtain ⟨b2, o2, rfl, k2⟩ := h2.cell (by omega)
      refine (Try.slices_Equal_int b1 o1 n1 c1 b2 o2 n1 c2 l1 l2 w (by rw [h1.len]; exact Nat.le_refl _) (by rw [h2.len]; exact Nat.le_refl _) (by omega) (by omega) (fun j hj => by have := k1 j (by rw [← h1.len]; exact hj); simpa [List.getD] using this) (fun j hj => by have := k2 j (by rw [← h2.len]; exact hj); simpa [List.getD] using this)).mono fun e w' ⟨he, hw⟩ => ⟨?_, hw⟩
      rw [he, List.take_of_length_le (by rw [h1.len]; exact Nat.le_refl _), List.take_of_length_le (by rw [h2.len]; exact Nat.le_refl _)]
      congr 2
      rw [Bool.eq_iff_iff, beq_iff_eq, decide_eq_true_iff]
  · have hne : decide (l1 = l2) = false := by
      rw [decide_eq_false_iff_not]
      intro e
      exact hn (by rw [← h1.len, ← h2.len, e])
    rw [hne]
    exact (Try.slices_Equal_int_lens K1 K2 n1 c1 n2 c2 w hn).mono fun e w' ⟨he, hw⟩ => ⟨he, 0, hw⟩

set_option maxHeartbeats 4000000 in
set_option maxRecDepth 100000 in
theorem refSameEvent (x y : Ev) (K1 K2 : Option Addr) (c1 c2 : Nat) (w : World) (hx : EvOk w x K1 c1) (hy : EvOk w y K2 c2) :
    Calls Try.prog 20 #[.agg #[.int .u64 x.time, .slice K1 x.ids.length c1], .agg #[.int .u64 y.time, .slice K2 y.ids.length c2]] w fun e w' => e = .returned (.bool (decide (x = y))) ∧ Below w.heap.size w w' := by
  have hE := fun W (hb : Below w.heap.size w W) => equalInts K1 K2 x.ids.length c1 y.ids.length c2 x.ids y.ids W (hx.2.1.below hb) (hy.2.1.below hb) (Nat.le_trans hx.2.2.1 hx.2.2.2) (Nat.le_trans hy.2.2.1 hy.2.2.2)
  have HX := Lib.hid hx
  obtain ⟨n1, hn1⟩ : ∃ n, x.ids.length = n := ⟨_, rfl⟩
  obtain ⟨n2, hn2⟩ : ∃ n, y.ids.length = n := ⟨_, rfl⟩
  obtain ⟨hx1, hx2⟩ := wf_u64 hx.1
  obtain ⟨hy1, hy2⟩ := wf_u64 hy.1
  rw [ev_eq, ← int_beq]
  rw [hn1, hn2] at hE ⊢
  obtain ⟨a, ha⟩ : ∃ a, x.time = a := ⟨_, rfl⟩
  obtain ⟨b, hb⟩ : ∃ b, y.time = b := ⟨_, rfl⟩
  rw [ha] at hx1 hx2
  rw [hb] at hy1 hy2
  rw [ha, hb]
  obtain ⟨r, hr⟩ : ∃ r, decide (x.ids = y.ids) = r := ⟨_, rfl⟩
  rw [hr] at hE ⊢
  have HE := Lib.hid hE
  clear hE hr hn1 hn2 hx hy ha hb
  rcases hab : (a == b)
  · go_enter Try.func20, Try.ntmps20
    go_wp2
    go_ret
    exact ⟨rfl, ((Below.refl _ _).alloc (Nat.le_refl _) _).alloc (le_alloc (Nat.le_refl _)) _⟩
  · go_enter Try.func20, Try.ntmps20
    go_wp2_with (go_at_call 42; refine (HE.out _ (((Below.refl _ _).alloc (Nat.le_refl _) _).alloc (le_alloc (Nat.le_refl _)) _)).mono ?_; rintro e w' ⟨rfl, q, rfl⟩)
    go_ret
    exact ⟨by simp, below_drewN (((Below.refl _ _).alloc (Nat.le_refl _) _).alloc (le_alloc (Nat.le_refl _)) _) _⟩

end Go.Proofs.Ytbbjoffknoaoiaa.Trace

namespace Go.Proofs.Ytbbjoffknoaoiaa.Record
open Go.RowKit Go.Proofs.Ytbbjoffknoaoiaa.Ints Go.Proofs.Ytbbjoffknoaoiaa.Mem Go.Proofs.Ytbbjoffknoaoiaa.SumMath Go.Proofs.Ytbbjoffknoaoiaa.SumWalks Go.Proofs.Ytbbjoffknoaoiaa.Trace

/-- An event's box. -/
def boxE (w : World) (x : Ev) (K : Option Addr) (c : Nat) : World := w.alloc (.cells #[.int .u64 x.time, .slice K x.ids.length c] 38)
theorem boxE_at {w W : World} {x : Ev} {K : Option Addr} {c : Nat} (hb : Below (w.heap.size + 1) (boxE w x K c) W) :
    W.cell? ⟨w.heap.size, 0, none⟩ = some (.int .u64 x.time) ∧ W.cell? ⟨w.heap.size, 1, none⟩ = some (.slice K x.ids.length c) :=
  ⟨(hb.cell (p := ⟨w.heap.size, 0, none⟩) (Nat.lt_succ_self _)).trans (box_cell 0 _ rfl), (hb.cell (p := ⟨w.heap.size, 1, none⟩) (Nat.lt_succ_self _)).trans (box_cell 1 _ rfl)⟩
theorem boxE_below {w W : World} {x : Ev} {K : Option Addr} {c : Nat} (hb : Below (w.heap.size + 1) (boxE w x K c) W) : Below w.heap.size w W :=
  ((Below.refl _ w).alloc (Nat.le_refl _) _).trans (hb.mono (Nat.le_succ _))
theorem boxE_size (w : World) (x : Ev) (K : Option Addr) (c : Nat) : (boxE w x K c).heap.size = w.heap.size + 1 := by simp [boxE]
theorem getD_opt (l : List Int) (k : Nat) : l.getD k 0 = l[k]?.getD 0 := by simp [List.getD]

set_option maxHeartbeats 4000000 in
set_option maxRecDepth 100000 in
theorem landSummed (x : Ev) (K : Option Addr) (c : Nat) (w : World) (hx : EvOk w x K c) (hids : idsOk x.ids 64 = true) :
    Calls Try.prog 54 #[.agg #[.int .u64 x.time, .slice K x.ids.length c]] w (Made w (10 + x.ids.length) (bodyR x)) := by
  obtain ⟨i0, hi, hz0, hz1, hz2⟩ := info_parts info5'
  obtain ⟨ht0, ht1⟩ := wf_u64 hx.1
  have hcnt := ids_count hids
  have HX := Lib.hid hx
  have HI := Lib.hid (ids_bytes hids)
  obtain ⟨n, hn⟩ : ∃ n, x.ids.length = n := ⟨_, rfl⟩
  have HN := Lib.hid hn
  obtain ⟨b0, b1⟩ := boxE_at (Below.refl (w.heap.size + 1) (boxE w x K c))
  have hW : w.alloc (.cells #[.int .u64 x.time, .slice K x.ids.length c] 38) = boxE w x K c := rfl
  have hs1 := boxE_size w x K c
  rw [hn] at hW b1 hcnt ⊢
  have hn64 : n ≤ 64 := by omega
  have c1 : (8 : Int) + (n : Int) ≤ 72 := by omega
  obtain ⟨W1, hW1⟩ : ∃ W1, boxE w x K c = W1 := ⟨_, rfl⟩
  have HW1 := Lib.hid hW1
  rw [hW1] at hW hs1 b0 b1
  have f1 := landWrite2 (.slice none 0 0) 0 [] (8 + (n : Int)) (w.heap.size + 1) W1 (by omega) (by omega) (World.ownsRow_nil _ _ _ _) (by omega) (by omega)
  have F1 := Lib.hid f1
  clear f1 hx hids hW1 hn hcnt
  go_enter Try.func54, Try.ntmps54
  go_wp2_with fail
  clear hW
  refine F1.out.mono ?_
  rintro e w1 ⟨v1, rfl, hown1, hB1⟩
  have d0 := (hB1.cell (p := ⟨w.heap.size, 0, none⟩) (Nat.lt_succ_self _)).trans b0
  have d1 := (hB1.cell (p := ⟨w.heap.size, 1, none⟩) (Nat.lt_succ_self _)).trans b1
  have hz1' := hB1.size
  clear b0 b1
  have F2 := Lib.hid (landWrite8 v1 2 (be2 (8 + (n : Int))) x.time (w.heap.size + 1) w1 ht0 ht1 (by simpa using hown1) (by omega) (by omega))
  go_wp2_with fail
  refine F2.out.mono ?_
  rintro e w2 ⟨v2, rfl, hown2, hB2⟩
  have e0 := (hB2.cell (p := ⟨w.heap.size, 0, none⟩) (Nat.lt_succ_self _)).trans d0
  have e1 := (hB2.cell (p := ⟨w.heap.size, 1, none⟩) (Nat.lt_succ_self _)).trans d1
  have HB12 := Lib.hid (hB1.trans hB2)
  clear d0 d1 F1 F2 hown1 hB1
  go_wp2_with fail
  go_loopw [3, 19] (fun v i wr => ∃ k : Nat, k ≤ n ∧ i = .int .i64 k ∧ wr.ownsRow (w.heap.size + 1) 5 1 v (10 + k) ((be2 (8 + (n : Int)) ++ be8 x.time ++ x.ids.take k).map (Value.int .u8)) ∧ Below (w.heap.size + 1) W1 wr) (fun _ i _ => n - (intOf i).toNat)
  case atStart => exact ⟨0, Nat.zero_le _, rfl, by simpa using hown2, HB12.out⟩
  case round =>
    obtain ⟨k, hk, rfl, hrow, hBr⟩ := hrel
    have hBs : w.heap.size + 1 ≤ wr.heap.size := by have := hBr.size; omega
    have hbw : Below w.heap.size w wr := boxE_below (by rw [HW1.out]; exact hBr)
    clear e0 e1 hown2 hB2
    by_cases hkn : k < n
    · obtain ⟨b, off, e, hc⟩ := (HX.out.2.1.below hbw).cell (by rw [HN.out]; omega)
      have x0 := hc k (by rw [HN.out]; omega)
      subst e
      obtain ⟨z, hz⟩ : ∃ z, x.ids[k]?.getD 0 = z := ⟨_, rfl⟩
      have hkl : k < x.ids.length := by rw [HN.out]; exact hkn
      have hb := HI.out z (by rw [← hz, List.getElem?_eq_getElem hkl]; exact List.getElem_mem hkl)
      have HS := Lib.hid (take_snoc x.ids k hkl)
      rw [hz] at x0
      have HZ := Lib.hid hz
      have hb0 := hb.1
      have hb1 := hb.2
      clear hc hz hb
      go_wp2_with (at_builtin; refine wpList_append_ints rfl _ _ 22 rfl .u8 (w.heap.size + 1) 5 i0 1 Try.underlying22 hi hz0 hz1 hz2 _ _ _ rfl (hrow.alloc _) _ 1 1 [z] rfl (Rd.lit wr 5 (0, 0) [z] (one_byte (by omega))) (by have : maxLen = 9223372036854775807 := rfl; omega) (by omega) (le_alloc hBs) ?_; intro v2 w2 hown2 hgr2)
      go_roundw
      case rel => exact ⟨k + 1, by omega, by go_num, row_more (by omega) (by rw [HS.out, HZ.out]; simp) hown2, (hBr.alloc hBs _).grown hgr2 (le_alloc hBs) (fun z hz => (hrow.lt z hz).1)⟩
      case measure => simp [intOf]; omega
    · obtain rfl : k = n := by omega
      go_wp2
      go_ret
      refine ⟨_, rfl, row_more rfl ?_ (own_weaken hrow (Nat.le_succ _)), hbw⟩
      rw [List.take_of_length_le (by rw [HN.out]; omega)]
      unfold bodyR
      rw [HN.out]
end Go.Proofs.Ytbbjoffknoaoiaa.Record

namespace Go.Proofs.Ytbbjoffknoaoiaa.Mem
open Go.RowKit Go.Proofs.Ytbbjoffknoaoiaa.Ints

/-! ### a block -/
/-- The block g begins with the cells vs. -/
def Blk (w : World) (g : Nat) (vs : List Value) : Prop := g < w.heap.size ∧ ∀ (k : Nat) (v : Value), vs[k]? = some v → w.cell? ⟨g, k, none⟩ = some v ∧ w.frozen? ⟨g, k, none⟩ = false
theorem Blk.cell {w : World} {g : Nat} {vs : List Value} (h : Blk w g vs) (k : Nat) {v : Value} (hv : vs[k]? = some v) : w.cell? ⟨g, k, none⟩ = some v := (h.2 k v hv).1
theorem Blk.fz {w : World} {g : Nat} {vs : List Value} (h : Blk w g vs) (k : Nat) {v : Value} (hv : vs[k]? = some v) : w.frozen? ⟨g, k, none⟩ = false := (h.2 k v hv).2
theorem Blk.same {w w' : World} {g : Nat} {vs : List Value} (h : Blk w g vs) (hs : w.heap.size ≤ w'.heap.size) (hb : w'.heap[g]? = w.heap[g]?) : Blk w' g vs :=
  ⟨Nat.lt_of_lt_of_le h.1 hs, fun k _ hv => ⟨(World.cell?_of_block (w := w) (a := ⟨g, k, none⟩) hb).trans (h.cell k hv), (World.frozen?_of_block (w := w) (a := ⟨g, k, none⟩) hb).trans (h.fz k hv)⟩⟩
theorem Blk.below {B : Nat} {w w' : World} {g : Nat} {vs : List Value} (h : Blk w g vs) (hb : Below B w w') (hg : g < B) : Blk w' g vs := h.same hb.size (hb.block g hg)
theorem Blk.later {w w' : World} {g : Nat} {vs : List Value} (h : Blk w g vs) (hb : Below w.heap.size w w') : Blk w' g vs := h.below hb h.1
theorem Blk.alloc {w : World} {g : Nat} {vs : List Value} (h : Blk w g vs) (o : Obj) : Blk (w.alloc o) g vs := h.later ((Below.refl _ _).alloc (Nat.le_refl _) _)
theorem Blk.grown {w w' : World} {g : Nat} {vs : List Value} {row : Option Nat} (h : Blk w g vs) (hg : w.grownBy w' row) (hne : some g ≠ row) : Blk w' g vs := h.same hg.size (hg.block g h.1 hne)
theorem Blk.set {w : World} {g : Nat} {vs : List Value} (h : Blk w g vs) (k : Nat) (u : Value) (hk : k < vs.length) : Blk (w.setCell ⟨g, k, none⟩ u) g (vs.set k u) := by
  refine ⟨by simpa using h.1, fun j v hv => ⟨?_, ?_⟩⟩
  · rw [List.getElem?_set] at hv
    by_cases e : k = j
    · subst e
      rw [if_pos rfl, if_pos hk] at hv
      cases hv
      exact World.cell?_setCell_same _ _ _ (h.cell k (List.getElem?_eq_getElem hk))
    · rw [if_neg e] at hv
      exact (World.cell?_setCell_other _ _ _ _ (fun e' => e (by injection e'))).trans (h.cell j hv)
  · rw [World.frozen?_setCell]
    rw [List.getElem?_set] at hv
    by_cases e : k = j
    · subst e
      exact h.fz k (List.getElem?_eq_getElem hk)
    · rw [if_neg e] at hv
      exact h.fz j hv
theorem Blk.other {w : World} {g : Nat} {vs : List Value} (h : Blk w g vs) (p : Addr) (u : Value) (hp : g ≠ p.block) : Blk (w.setCell p u) g vs := h.same (by simp) (Below.heap_setCell w p u g hp)
theorem Blk.drew {w : World} {g : Nat} {vs : List Value} (h : Blk w g vs) : Blk w.drew g vs := h
theorem Blk.drewN {w : World} {g : Nat} {vs : List Value} (h : Blk w g vs) (n : Nat) : Blk (w.drewN n) g vs := h
theorem Blk.new (w : World) (cs : Array Value) (T : TypeId) (vs : List Value) (hv : cs.toList = vs) : Blk (w.alloc (.cells cs T)) w.heap.size vs := by
  subst hv
  refine ⟨by simp, fun k v hk => ⟨?_, ?_⟩⟩
  · rw [cell_of_row _ w.heap.size k _ T (0, 0) (heap_alloc_new w _)]
    simpa using hk
  · exact World.frozen?_alloc_new _ _ _ _
end Go.Proofs.Ytbbjoffknoaoiaa.Mem

namespace Go.Proofs.Ytbbjoffknoaoiaa.Record
open Go.RowKit Go.Proofs.Ytbbjoffknoaoiaa.Ints Go.Proofs.Ytbbjoffknoaoiaa.Mem Go.Proofs.Ytbbjoffknoaoiaa.SumMath Go.Proofs.Ytbbjoffknoaoiaa.SumWalks Go.Proofs.Ytbbjoffknoaoiaa.Trace

/-- What a call that hands back an event of its own leaves. -/
def GotE (w : World) (x : Ev) (e : Ending) (w' : World) : Prop :=
  ∃ K c, e = .returned (.agg #[.int .u64 x.time, .slice K x.ids.length c]) ∧ EvOk w' x K c ∧ Below w.heap.size w w' ∧ ∀ a, K = some a → w.heap.size ≤ a.block
theorem infoInt : (Try.prog.info? 3).map (fun i => (i.zero, i.size, i.bytes)) = some (some (.int .i64 0), 1, 8) := by kernel_rfl
theorem byte_i64 {z : Int} (h : 0 ≤ z ∧ z ≤ 255) : ∀ y ∈ [z], (Lit.int .i64 y).wf = true := fun y hy => by
  rw [List.mem_singleton.1 hy]
  simp [Lit.wf, IntKind.min, IntKind.max, IntKind.signed, IntKind.bits]
  omega
theorem bytes_i64 {l : List Int} (h : ∀ z ∈ l, 0 ≤ z ∧ z ≤ 255) : ∀ y ∈ l, (Lit.int .i64 y).wf = true := fun y hy => byte_i64 (h y hy) y (List.mem_singleton.2 rfl)

theorem own_other {w : World} {base n : Nat} {e : TypeId} {v : Value} {xs : List Value} (h : w.ownsRow base e 1 v n xs) (p : Addr) (u : Value) (hp : p.block < base) : (w.setCell p u).ownsRow base e 1 v n xs :=
  h.kept (row := some p.block) ⟨rfl, rfl, rfl, by simp [World.setCell], fun k _ hne => Below.heap_setCell w p u k (fun e => hne (by rw [e]))⟩
    (by
      rcases hv : v.ownBlock with _ | k
      · exact Or.inl rfl
      · refine Or.inr fun e => ?_
        have := (h.lt k hv).1
        injection e with e
        omega)

set_option maxHeartbeats 4000000 in
set_option maxRecDepth 100000 in
theorem landEvent (b off m c : Nat) (zs : List Int) (w : World) (hm : m ≤ 1000) (hc : m + 10 ≤ c) (hcm : c ≤ maxLen) (h : Rd .u8 w (some ⟨b, off, none⟩) (m + 10) zs) :
    Calls Try.prog 60 #[.slice (some ⟨b, off, none⟩) (m + 10) c] w (GotE w ⟨numR ((zs.drop 2).take 8), zs.drop 10⟩) := by
  obtain ⟨i0, hi, hz0, hz1, hz2⟩ := info_parts infoInt
  have q63 : maxLen = 9223372036854775807 := rfl
  have h2 := h.drop (m := 2) (by omega)
  have h8 := h2.take (m := 8) (by omega)
  have hd := h.drop (m := 10) (by omega)
  rw [show m + 10 - 10 = m by omega] at hd
  obtain ⟨t, ht⟩ : ∃ t, numR ((zs.drop 2).take 8) = t := ⟨_, rfl⟩
  have htb := num_bd 8 ((zs.drop 2).take 8) (by rw [h8.len]; exact Nat.le_refl _) (all_u8 h8.all)
  rw [ht] at htb
  have htw : (Lit.int .u64 t).wf = true := by
    simp [Lit.wf, IntKind.min, IntKind.max, IntKind.signed, IntKind.bits]
    have : (256 : Nat) ^ 8 = 18446744073709551616 := by decide
    omega
  have HT := Lib.hid htw
  have FN := fun W (hW : Rd .u8 W (some ⟨b, off + 2, none⟩) 8 ((zs.drop 2).take 8)) => landNumber (some ⟨b, off + 2, none⟩) 8 (c - 2) _ W (Nat.le_refl _) hW
  rw [ht] at FN ⊢
  obtain ⟨ids, hids⟩ : ∃ ids, zs.drop 10 = ids := ⟨_, rfl⟩
  rw [hids] at hd ⊢
  have hblt : ∀ W, w.heap.size ≤ W.heap.size → Below w.heap.size w W → Rd .u8 W (some ⟨b, off + 10, none⟩) m ids := fun W _ hW => hd.below hW
  have H8 := Lib.hid h8
  have HL := Lib.hid hd.len
  have HF := Lib.hid FN
  have HD := Lib.hid hd
  have HB := Lib.hid hblt
  have HBY := Lib.hid (bytes_i64 (all_u8 hd.all))
  have g1 : (2 : Int) ≤ ((m + 10 : Nat) : Int) := by omega
  have g2 : (8 : Int) ≤ (c : Int) - 2 := by omega
  have g3 : (10 : Int) ≤ (c : Int) := by omega
  have g4 : (c : Int) ≤ 9223372036854775807 := by omega
  clear h h2 h8 hd ht htb htw FN hids hblt
  go_enter Try.func60, Try.ntmps60
  go_wp2_with fail
  refine (HF.out _ (H8.out.alloc _)).mono ?_
  rintro e w' ⟨rfl, rfl⟩
  go_wp2_with fail
  all_goals
    have HSP : Hid (m = 0 ∨ 10 < c) := by show _ ∨ _; omega
    go_loopw [15] (fun i wr => ∃ (k : Nat) (v : Value), k ≤ m ∧ i = .int .i64 k ∧ Blk wr w.heap.size [.int .u64 0, .slice none 0 0] ∧ Blk wr (w.heap.size + 1) [.int .u64 t, v] ∧ wr.ownsRow (w.heap.size + 2) 3 1 v k ((ids.take k).map (Value.int .i64)) ∧ Below w.heap.size w wr ∧ w.heap.size + 2 ≤ wr.heap.size) (fun i _ => m - (intOf i).toNat)
    case atStart =>
      refine ⟨0, _, Nat.zero_le _, rfl, (Blk.new w #[.int .u64 0, .slice none 0 0] 38 _ rfl).alloc _, ?_, World.ownsRow_nil _ _ _ _, ((Below.refl _ _).alloc (Nat.le_refl _) _).alloc (le_alloc (Nat.le_refl _)) _, by simp⟩
      have := Blk.new (w.alloc (.cells #[.int .u64 0, .slice none 0 0] 38)) #[.int .u64 t, .slice none 0 0] 38 _ rfl
      simpa using this
    case round =>
      obtain ⟨k, v, hk, rfl, hK0, hK1, hrow, hBr, hsz⟩ := hrel
      have e0 := hK1.cell 0 rfl
      have e1 := hK1.cell 1 rfl
      have f1 := hK1.fz 1 rfl
      have r0 := hK0.cell 0 rfl
      have r1 := hK0.cell 1 rfl
      have q0 := hK0.fz 0 rfl
      have q1 := hK0.fz 1 rfl
      by_cases hkm : k < m
      · first
          | (exfalso; omega)
          | (obtain ⟨b', off', e, hc⟩ := (HD.out.below hBr).cell (by omega)
             simp only [Option.some.injEq, Addr.mk.injEq, and_true] at e
             obtain ⟨rfl, rfl⟩ := e
             have x0 := hc k hkm
             obtain ⟨z, hz⟩ : ∃ z, ids[k]?.getD 0 = z := ⟨_, rfl⟩
             have hzb := (HD.out.below hBr).u8 k hkm
             rw [hz] at x0 hzb
             have HS := Lib.hid (take_snoc ids k (by rw [HL.out]; exact hkm))
             have HZ := Lib.hid hz
             have HR := Lib.hid hrow
             have HK0 := Lib.hid hK0
             have HK1 := Lib.hid hK1
             obtain ⟨A1, c1, rfl, hc1, hm1, -, hb1⟩ := own_slice hrow
             obtain ⟨z0, z1⟩ := hzb
             clear hc hz hrow hK0 hK1 r0 r1 q0 q1
             have hne : ∀ g, g < w.heap.size + 2 → some g ≠ (Value.slice A1 k c1).ownBlock := fun g hg e => by
               cases A1 with
               | none => simp [Value.ownBlock] at e
               | some a => simp [Value.ownBlock] at e; have := (hb1 a rfl).1; omega
             go_wp2_with (at_builtin; refine wpList_append_ints rfl _ _ 23 rfl .i64 (w.heap.size + 2) 3 i0 8 Try.underlying23 hi hz0 hz1 hz2 _ _ _ rfl (HR.out.alloc _) _ 1 1 [z] rfl (Rd.lit wr 3 (0, 0) [z] (byte_i64 ⟨z0, z1⟩)) (by omega) (by omega) (le_alloc hsz) ?_; intro v2 w2 hown2 hgr2; obtain ⟨A2, c2, rfl, -⟩ := own_slice hown2; have hK1' := (HK1.out.alloc (.cells #[.int .i64 z] 3)).grown hgr2 (hne _ (by omega)); have y1 := hK1'.cell 1 rfl; have y2 := hK1'.fz 1 rfl)
             go_roundw
             case rel =>
               have hK0' := (HK0.out.alloc (.cells #[.int .i64 z] 3)).grown hgr2 (hne _ (by omega))
               have hB2 := (hBr.alloc hBr.size (.cells #[.int .i64 z] 3)).grown hgr2 (le_alloc hBr.size) (fun q hq => by have := (HR.out.lt q hq).1; omega)
               have hs2 : w.heap.size + 2 ≤ w2.heap.size := Nat.le_trans (le_alloc (o := .cells #[.int .i64 z] 3) hsz) hgr2.size
               exact ⟨k + 1, .slice A2 (k + 1) c2, by omega, by go_num, hK0'.other _ _ (by simp), hK1'.set 1 _ (by simp), own_other (row_more (ys := ids.take (k + 1)) rfl (by rw [HS.out, HZ.out]) hown2) ⟨w.heap.size + 1, 1, none⟩ (.slice A2 (k + 1) c2) (Nat.lt_succ_self _), hB2.setCell (by simp) _, by simpa [World.setCell] using hs2⟩
             case measure => simp [intOf]; omega)
      · obtain rfl : k = m := by omega
        obtain ⟨A1, c1, rfl, hc1, hm1, -, hb1⟩ := own_slice hrow
        have HR := Lib.hid hrow
        have HK1 := Lib.hid hK1
        clear hrow hK0 hK1
        go_wp2
        refine bodyPost_ret (v := .agg #[.int .u64 t, .slice A1 k c1]) (by simp [results, Try.results60, go_sem, r0, r1]) rfl ?_
        have hre : Blk ((wr.setCell ⟨w.heap.size, 0, none⟩ (.int .u64 t)).setCell ⟨w.heap.size, 1, none⟩ (.slice A1 k c1)) (w.heap.size + 1) [.int .u64 t, .slice A1 k c1] := (HK1.out.other _ _ (by simp)).other _ _ (by simp)
        have hown := own_other (own_other HR.out ⟨w.heap.size, 0, none⟩ (.int .u64 t) (by simp)) ⟨w.heap.size, 1, none⟩ (.slice A1 k c1) (by simp)
        have hlen : ids.length = k := HL.out
        rw [List.take_of_length_le (by omega)] at hown
        exact ⟨A1, c1, by rw [hlen], ⟨HT.out, by show Rd .i64 _ A1 ids.length ids; rw [hlen]; exact Rd.own hown HBY.out, by show ids.length ≤ c1; omega, hm1⟩, (hBr.setCell (Nat.le_refl _) _).setCell (Nat.le_refl _) _, fun a ha => by have := (hb1 a ha).1; omega⟩
end Go.Proofs.Ytbbjoffknoaoiaa.Record
