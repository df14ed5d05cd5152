/-
  The law HeadsNil (stage 13), over contracts of what a pool that is none answers. By an AI agent.
  The landed pool: Names; what a pool that is none answers (stage 13). By an AI agent.
  The landed pool: Next (stage 13). By an AI agent.
-/
import Derived.Test.YtimbbfneaaglbaaGHeadsApart29
import Derived.Test.YtimbbfneaaglbaaGHeadsApart13
import Derived.Test.YtimbbfneaaglbaaGHeadsApart19
import Derived.Test.YtimbbfneaaglbaaGHeadsApart43
namespace Go.Proofs.Ytimbbfneaaglbaa.Heads
open Go.RowKit Go.Proofs.Ytimbbfneaaglbaa.Ints Go.Proofs.Ytimbbfneaaglbaa.Mem Go.Proofs.Ytimbbfneaaglbaa.Trace Go.Proofs.Ytimbbfneaaglbaa.Record Go.Proofs.Ytimbbfneaaglbaa.Log Go.Proofs.Ytimbbfneaaglbaa.Src

/-- What a pool that is none answers. -/
structure PoolNil : Prop where
  open_ : ∀ (w : World), Calls Try.prog 11 #[.pointer none] w fun e w' => e = .returned (.tuple #[.int .i64 0, .int .i64 1]) ∧ Below w.heap.size w w'
  clone_ : ∀ (id : Int) (w : World), small64 id → Calls Try.prog 13 #[.pointer none, .int .i64 id] w fun e w' => e = .returned (.tuple #[.int .i64 0, .int .i64 1]) ∧ Below w.heap.size w w'
  next_ : ∀ (id : Int) (w : World), small64 id → Calls Try.prog 15 #[.pointer none, .int .i64 id] w fun e w' => e = .returned (.tuple #[.agg #[.int .u64 0, .slice none 0 0], .int .i64 1]) ∧ Below w.heap.size w w'
  index_ : ∀ (id : Int) (w : World), small64 id → Calls Try.prog 17 #[.pointer none, .int .i64 id] w fun e w' => e = .returned (.tuple #[.int .i64 0, .bool false]) ∧ Below w.heap.size w w'
  seek_ : ∀ (id k : Int) (w : World), small64 id → small64 k → Calls Try.prog 12 #[.pointer none, .int .i64 id, .int .i64 k] w fun e w' => e = .returned (.int .i64 1) ∧ Below w.heap.size w w'
  close_ : ∀ (id : Int) (w : World), small64 id → Calls Try.prog 16 #[.pointer none, .int .i64 id] w fun e w' => e = .returned (.bool false) ∧ Below w.heap.size w w'
  count_ : ∀ (w : World), Calls Try.prog 14 #[.pointer none] w fun e w' => e = .returned (.int .i64 0) ∧ Below w.heap.size w w'
  cells_ : ∀ (w : World), Calls Try.prog 19 #[.pointer none] w fun e w' => e = .returned (.int .i64 0) ∧ Below w.heap.size w w'
  peak_ : ∀ (w : World), Calls Try.prog 20 #[.pointer none] w fun e w' => e = .returned (.int .i64 0) ∧ Below w.heap.size w w'
  names_ : ∀ (w : World), Calls Try.prog 21 #[.pointer none] w fun e w' => ∃ A c, e = .returned (.slice A 0 c) ∧ Below w.heap.size w w'

set_option maxHeartbeats 8000000 in
set_option maxRecDepth 100000 in
theorem lawHeadsNil {L : LPool} (C : PoolC L) (Z : PoolNil) (id k : Int) (w : World) (hid : small64 id) (hk : small64 k) : Calls Try.prog 6 #[.int .i64 id, .int .i64 k] w fun e w' => e = .returned (.bool true) ∧ Below w.heap.size w w' := by
  have q63 : maxLen = 9223372036854775807 := rfl
  have HB0 := Lib.hid (Below.refl w.heap.size w)
  go_enter Try.func6, Try.ntmps6
  go_wp2_with fail
  refine (Z.open_ w).mono ?_
  rintro e w1 ⟨rfl, hB⟩
  have HB1 := Lib.hid (HB0.out.trans (hB.mono HB0.out.size))
  clear hB
  go_wp2_with fail
  refine (Z.clone_ id w1 hid).mono ?_
  rintro e w2 ⟨rfl, hB⟩
  have HB2 := Lib.hid (HB1.out.trans (hB.mono HB1.out.size))
  clear hB
  go_wp2_with fail
  refine (Z.next_ id w2 hid).mono ?_
  rintro e w3 ⟨rfl, hB⟩
  have HB3 := Lib.hid (HB2.out.trans (hB.mono HB2.out.size))
  clear hB
  go_wp2_with fail
  have hal := (Below.refl _ w3).alloc (Nat.le_refl _) (.cells #[.int .u64 0, .slice none 0 0] 46)
  have hbx := Blk.new w3 #[.int .u64 0, .slice none 0 0] 46 [.int .u64 0, .slice none 0 0] rfl
  obtain ⟨wb, hwb⟩ : ∃ wb, w3.alloc (.cells #[.int .u64 0, .slice none 0 0] 46) = wb := ⟨_, rfl⟩
  obtain ⟨gb, hgb⟩ : ∃ gb, w3.heap.size = gb := ⟨_, rfl⟩
  rw [hwb] at hal hbx ⊢
  rw [hgb] at hbx ⊢
  have HB3 := Lib.hid (HB3.out.trans (hal.mono HB3.out.size))
  have HX := Lib.hid hbx
  clear hal hbx hwb hgb
  refine (Z.index_ id wb hid).mono ?_
  rintro e w4 ⟨rfl, hB⟩
  have HB4 := Lib.hid (HB3.out.trans (hB.mono HB3.out.size))
  have HX := Lib.hid (HX.out.later hB)
  clear hB
  go_wp2_with fail
  refine (Z.names_ w4).mono ?_
  rintro e w5 ⟨A5, c5, rfl, hB⟩
  have HB5 := Lib.hid (HB4.out.trans (hB.mono HB4.out.size))
  have HX := Lib.hid (HX.out.later hB)
  have x0 := HX.out.cell 0 rfl
  have x1 := HX.out.cell 1 rfl
  clear hB
  go_wp2_with fail
  have FS := refSameEvent noEv noEv none none 0 0 w5 (no_ok _) (no_ok _)
  rw [show decide (noEv = noEv) = true from decide_eq_true rfl] at FS
  refine FS.mono ?_
  rintro e w6 ⟨rfl, hB⟩
  have HB6 := Lib.hid (HB5.out.trans (hB.mono HB5.out.size))
  clear hB
  go_wp2_with fail
  refine (Z.seek_ id k w6 hid hk).mono ?_
  rintro e w7 ⟨rfl, hB⟩
  have HB7 := Lib.hid (HB6.out.trans (hB.mono HB6.out.size))
  clear hB
  go_wp2_with fail
  refine (Z.close_ id w7 hid).mono ?_
  rintro e w8 ⟨rfl, hB⟩
  have HB8 := Lib.hid (HB7.out.trans (hB.mono HB7.out.size))
  clear hB
  go_wp2_with fail
  refine (Z.count_ w8).mono ?_
  rintro e w9 ⟨rfl, hB⟩
  have HB9 := Lib.hid (HB8.out.trans (hB.mono HB8.out.size))
  clear hB
  go_wp2_with fail
  refine (Z.cells_ w9).mono ?_
  rintro e w10 ⟨rfl, hB⟩
  have HB10 := Lib.hid (HB9.out.trans (hB.mono HB9.out.size))
  clear hB
  go_wp2_with fail
  refine (Z.peak_ w10).mono ?_
  rintro e w11 ⟨rfl, hB⟩
  have HB11 := Lib.hid (HB10.out.trans (hB.mono HB10.out.size))
  clear hB
  go_wp2_with fail
  refine (lawAwake C w11).mono ?_
  rintro e w12 ⟨rfl, hB⟩
  have HB12 := Lib.hid (HB11.out.trans (hB.mono HB11.out.size))
  clear hB
  go_wp2_with fail
  go_ret
  exact ⟨rfl, HB12.out⟩
end Go.Proofs.Ytimbbfneaaglbaa.Heads

namespace Go.Proofs.Ytimbbfneaaglbaa.Heads
open Go.RowKit Go.Proofs.Ytimbbfneaaglbaa.Ints Go.Proofs.Ytimbbfneaaglbaa.Mem Go.Proofs.Ytimbbfneaaglbaa.Trace Go.Proofs.Ytimbbfneaaglbaa.Record Go.Proofs.Ytimbbfneaaglbaa.Log Go.Proofs.Ytimbbfneaaglbaa.Src Go.Proofs.Ytimbbfneaaglbaa.Scan

theorem cloneStrs (A : Option Addr) (l : List (List UInt8)) (c : Nat) (w : World) (h : Strs w A l) (hl : l.length ≤ 64) (_hc : l.length ≤ c) :
    Calls Try.prog 37 #[.slice A l.length c] w fun e w' => ∃ A2 c2, e = .returned (.slice A2 l.length c2) ∧ w'.ownsRow w.heap.size 9 1 (.slice A2 l.length c2) l.length (l.map strS) ∧ Below w.heap.size w w' := by
  rcases Nat.eq_zero_or_pos l.length with h0 | h0
  · have hl0 : l = [] := List.eq_nil_of_length_eq_zero h0
    subst hl0
    cases A with
    | none =>
      refine (Try.slices_Clone_string_nil 0 c w).mono ?_
      rintro e w' ⟨rfl, rfl⟩
      exact ⟨none, 0, rfl, World.ownsRow_nil _ _ _ _, Below.refl _ _⟩
    | some a =>
      refine (Try.slices_Clone_string_zero a c w).mono ?_
      rintro e w' ⟨v', rfl, h1, -, h2⟩
      obtain ⟨A2, c2, rfl, -⟩ := own_sliceN h1
      exact ⟨A2, c2, rfl, h1, h2⟩
  · obtain ⟨b, off, rfl, hc⟩ := h h0
    have hm : (l.map (fun s => (⟨s.toArray⟩ : ByteArray))).length = l.length := List.length_map _
    refine (Try.slices_Clone_string b off l.length c (l.map (fun s => (⟨s.toArray⟩ : ByteArray))) w (by rw [hm]; exact Nat.le_refl _) (by omega) (fun j hj => ?_)).mono ?_
    · rw [hm] at hj
      rw [hc j l[j] (List.getElem?_eq_getElem hj), List.getD_eq_getElem?_getD, List.getElem?_map, List.getElem?_eq_getElem hj]
      rfl
    · rintro e w' ⟨v', rfl, h1, -, h2⟩
      obtain ⟨A2, c2, rfl, -⟩ := own_sliceN h1
      refine ⟨A2, c2, rfl, ?_, h2⟩
      rw [List.take_of_length_le (by rw [hm]; exact Nat.le_refl _), List.map_map] at h1
      exact h1
set_option maxHeartbeats 8000000 in
set_option maxRecDepth 100000 in
theorem land_names (b : List Int) (f : Nat) (w : World) (g : Nat) (D : Nat → Prop) (N : Nat) (s : PS) (h : LandL b f w g D N s) :
    Calls Try.prog 21 #[.pointer (some ⟨g, 0, none⟩)] w fun e w' => ∃ A c D' N', e = .returned (.slice A s.t.names.length c) ∧ Strs w' A s.t.names ∧ (∀ a, A = some a → w.heap.size ≤ a.block ∧ ¬ D' a.block) ∧ s.t.names.length ≤ c ∧ c ≤ maxLen ∧
      LandL b f w' g D' N' s ∧ (∀ q, D' q → D q ∨ w.heap.size ≤ q) ∧ Left D w w' ∧ N' ≤ N + 1099511627776 := by
  obtain ⟨q, NA, nc, A, n, c, pl, h⟩ := h
  have b1 := h.blk.cell 1 rfl
  have HC := Lib.hid (cloneStrs NA s.t.names nc w h.ln.strs h.ln.n64 h.ln.nn.1)
  have HEND := Lib.hid (show ∀ A2 c2 w', w'.ownsRow w.heap.size 9 1 (.slice A2 s.t.names.length c2) s.t.names.length (s.t.names.map strS) → Below w.heap.size w w' → ∃ A c D' N', Ending.returned (.slice A2 s.t.names.length c2) = .returned (.slice A s.t.names.length c) ∧ Strs w' A s.t.names ∧ (∀ a, A = some a → w.heap.size ≤ a.block ∧ ¬ D' a.block) ∧ s.t.names.length ≤ c ∧ c ≤ maxLen ∧
      LandL b f w' g D' N' s ∧ (∀ q, D' q → D q ∨ w.heap.size ≤ q) ∧ Left D w w' ∧ N' ≤ N + 1099511627776 from fun A2 c2 w' hown hb => by
    obtain ⟨-, h1, h2, h3⟩ := strs_own hown
    refine ⟨A2, c2, D, N, rfl, h1, fun a e => ?_, h2, h3, ⟨q, NA, nc, A, n, c, pl, h.below hb⟩, fun _ e => .inl e, Left.of_below hb, Nat.le_add_right _ _⟩
    subst e
    have := (hown.lt a.block rfl).1
    exact ⟨this, fun e => by have := h.ln.lt _ e; omega⟩)
  clear h
  obtain ⟨nn, hnn⟩ : ∃ nn, s.t.names.length = nn := ⟨_, rfl⟩
  rw [hnn] at b1 HC HEND ⊢
  go_enter Try.func21, Try.ntmps21
  go_wp2_with (go_at_call 37; refine HC.out.mono ?_; rintro e w1 ⟨A2, c2, rfl, h1, h2⟩)
  go_ret
  exact HEND.out A2 c2 _ h1 h2
theorem nil_names (w : World) : Calls Try.prog 21 #[.pointer none] w fun e w' => ∃ A c, e = .returned (.slice A 0 c) ∧ Below w.heap.size w w' := by
  go_enter Try.func21, Try.ntmps21
  go_wp2
  go_ret
  exact ⟨none, 0, rfl, Below.refl _ _⟩
theorem nil_count (w : World) : Calls Try.prog 14 #[.pointer none] w fun e w' => e = .returned (.int .i64 0) ∧ Below w.heap.size w w' := by
  go_enter Try.func14, Try.ntmps14
  go_wp2
  go_ret
  exact ⟨rfl, Below.refl _ _⟩
theorem nil_cells (w : World) : Calls Try.prog 19 #[.pointer none] w fun e w' => e = .returned (.int .i64 0) ∧ Below w.heap.size w w' := by
  go_enter Try.func19, Try.ntmps19
  go_wp2
  go_ret
  exact ⟨rfl, Below.refl _ _⟩
theorem nil_peak (w : World) : Calls Try.prog 20 #[.pointer none] w fun e w' => e = .returned (.int .i64 0) ∧ Below w.heap.size w w' := by
  go_enter Try.func20, Try.ntmps20
  go_wp2
  go_ret
  exact ⟨rfl, Below.refl _ _⟩
theorem nil_open (w : World) : Calls Try.prog 11 #[.pointer none] w fun e w' => e = .returned (.tuple #[.int .i64 0, .int .i64 1]) ∧ Below w.heap.size w w' := by
  go_enter Try.func11, Try.ntmps11
  go_wp2
  refine bodyPost_ret (v := .tuple #[.int .i64 0, .int .i64 1]) (by simp [results, Try.results11, go_sem]) rfl ?_
  exact ⟨rfl, Below.refl _ _⟩
theorem nil_clone (id : Int) (w : World) : Calls Try.prog 13 #[.pointer none, .int .i64 id] w fun e w' => e = .returned (.tuple #[.int .i64 0, .int .i64 1]) ∧ Below w.heap.size w w' := by
  go_enter Try.func13, Try.ntmps13
  go_wp2
  refine bodyPost_ret (v := .tuple #[.int .i64 0, .int .i64 1]) (by simp [results, Try.results13, go_sem]) rfl ?_
  exact ⟨rfl, Below.refl _ _⟩
theorem nil_seek (id k : Int) (w : World) : Calls Try.prog 12 #[.pointer none, .int .i64 id, .int .i64 k] w fun e w' => e = .returned (.int .i64 1) ∧ Below w.heap.size w w' := by
  go_enter Try.func12, Try.ntmps12
  go_wp2
  go_ret
  exact ⟨rfl, Below.refl _ _⟩
theorem nil_close (id : Int) (w : World) : Calls Try.prog 16 #[.pointer none, .int .i64 id] w fun e w' => e = .returned (.bool false) ∧ Below w.heap.size w w' := by
  have HF := Lib.hid (fun W => find_nil id W)
  go_enter Try.func16, Try.ntmps16
  go_wp2_with (go_at_call 30; refine (HF.out _).mono ?_; rintro e w1 ⟨rfl, rfl⟩)
  go_ret
  exact ⟨rfl, Below.refl _ _⟩
theorem nil_index (id : Int) (w : World) : Calls Try.prog 17 #[.pointer none, .int .i64 id] w fun e w' => e = .returned (.tuple #[.int .i64 0, .bool false]) ∧ Below w.heap.size w w' := by
  have HF := Lib.hid (fun W => find_nil id W)
  go_enter Try.func17, Try.ntmps17
  go_wp2_with (go_at_call 30; refine (HF.out _).mono ?_; rintro e w1 ⟨rfl, rfl⟩)
  refine bodyPost_ret (v := .tuple #[.int .i64 0, .bool false]) (by simp [results, Try.results17, go_sem]) rfl ?_
  exact ⟨rfl, Below.refl _ _⟩
theorem nil_next (id : Int) (w : World) : Calls Try.prog 15 #[.pointer none, .int .i64 id] w fun e w' => e = .returned (.tuple #[.agg #[.int .u64 0, .slice none 0 0], .int .i64 1]) ∧ Below w.heap.size w w' := by
  have z := Blk.new w #[.int .u64 0, .slice none 0 0] 46 [.int .u64 0, .slice none 0 0] rfl
  have z0 := z.cell 0 rfl
  have z1 := z.cell 1 rfl
  clear z
  go_enter Try.func15, Try.ntmps15
  go_wp2
  refine bodyPost_ret (v := .tuple #[.agg #[.int .u64 0, .slice none 0 0], .int .i64 1]) (by simp [results, Try.results15, go_sem, z0, z1]) rfl ?_
  exact ⟨rfl, (Below.refl _ _).alloc (Nat.le_refl _) _⟩
theorem landNilPool : PoolNil :=
  ⟨nil_open, fun id w _ => nil_clone id w, fun id w _ => nil_next id w, fun id w _ => nil_index id w, fun id k w _ _ => nil_seek id k w, fun id w _ => nil_close id w, nil_count, nil_cells, nil_peak, nil_names⟩
end Go.Proofs.Ytimbbfneaaglbaa.Heads

namespace Go.Proofs.Ytimbbfneaaglbaa.Heads
open Go.RowKit Go.Proofs.Ytimbbfneaaglbaa.Ints Go.Proofs.Ytimbbfneaaglbaa.Mem Go.Proofs.Ytimbbfneaaglbaa.Trace Go.Proofs.Ytimbbfneaaglbaa.Record Go.Proofs.Ytimbbfneaaglbaa.Log Go.Proofs.Ytimbbfneaaglbaa.Src Go.Proofs.Ytimbbfneaaglbaa.Scan

theorem evok_at {w w' : World} {e : Ev} {K : Option Addr} {c : Nat} (h : EvOk w e K c) (hk : ∀ a, K = some a → 0 < e.ids.length → w'.heap[a.block]? = w.heap[a.block]?) : EvOk w' e K c := ⟨h.1, rd_at h.2.1 hk, h.2.2⟩
/-- What the record behind a head is. -/
theorem read_tells {b : List Int} {f : Nat} {t : Tr} {er : Nat} {pl : Nat → Nat} (h : Walk b f t er pl) (i : Nat) {k : Nat} (hk : k ≤ t.events.length) :
    (k < t.events.length ∧ ReadE b f (hdOf t pl (i, k)) (t.names.length : Nat) = 0 ∧ scanV b f (pl k : Nat) (t.names.length : Nat) = t.events.getD k noEv ∧ scanN b f (pl k : Nat) (t.names.length : Nat) = pl (k + 1)) ∨
      (¬ k < t.events.length ∧ ReadE b f (hdOf t pl (i, k)) (t.names.length : Nat) = er ∧ er ≠ 0) := by
  by_cases hlt : k < t.events.length
  · obtain ⟨h1, h2, h3, h4⟩ := h.rec_ k hlt
    refine .inl ⟨hlt, ?_, h2, h3⟩
    unfold ReadE
    show (if scanE b f (pl k : Nat) (t.names.length : Nat) ≠ 0 then _ else if (scanV b f (pl k : Nat) (t.names.length : Nat)).time < timeD 0 t.events k then _ else _) = _
    rw [h1, h2, if_neg (fun e => e rfl), if_neg (by omega)]
  · obtain rfl : k = t.events.length := by omega
    refine .inr ⟨hlt, ?_⟩
    unfold ReadE
    show (if scanE b f (pl t.events.length : Nat) (t.names.length : Nat) ≠ 0 then scanE b f (pl t.events.length : Nat) (t.names.length : Nat) else if (scanV b f (pl t.events.length : Nat) (t.names.length : Nat)).time < timeD 0 t.events t.events.length then _ else _) = _ ∧ _
    rcases h.last with ⟨h1, h2⟩ | ⟨h1, h2, h3⟩
    · rw [h1, if_pos h2]
      exact ⟨rfl, h2⟩
    · rw [h2, if_neg (fun e => e rfl), if_pos h3]
      exact ⟨h1.symm, by omega⟩
theorem hds_set {t : Tr} {pl : Nat → Nat} {hs : List (Option Nat)} {i k p : Nat} {A B : List (Nat × Nat)} (e2 : opens 0 hs = A ++ (i, k) :: B) (e3 : A.length = p) (e4 : ∀ j, opens 0 (hs.set i (some j)) = A ++ (i, j) :: B) (j : Nat) : (hdsL t pl hs).set p (hdOf t pl (i, j)) = hdsL t pl (hs.set i (some j)) := by
  unfold hdsL
  rw [e2, e4, List.map_append, List.map_append, List.map_cons, List.map_cons, List.set_append_right _ _ (by rw [List.length_map]; omega), List.length_map, e3, Nat.sub_self, List.set_cons_zero]
/-- The read of a pool: its source goes on. -/
theorem LQ.read {b : List Int} {f : Nat} {w w' : World} {g : Nat} {D : Nat → Prop} {N N' : Nat} {s : PS} {q : Nat} {NA : Option Addr} {nc : Nat} {A : Option Addr} {n c : Nat} {pl : Nat → Nat} {l : List Hd} {cl pk : Nat} {sc : List Int} (h : LQ b f w g D N s q NA nc A n c pl l cl pk) (hs : LSrc (fun k => D k ∧ k < g ∧ k ≠ q) w' q b sc f N') (hg : w.grownBy w' (some q)) : LQ b f w' g D N' s q NA nc A n c pl l cl pk :=
  ⟨h.blk.grown hg (fun e => by injection e with e; have := h.ln.qg; omega), h.ln.read hs hg, row_apart h.row hg (by have := h.ln.qg; omega), h.len, h.dv, h.walk⟩
theorem left_read {D : Nat → Prop} {w w' : World} {q : Nat} (hg : w.grownBy w' (some q)) (hq : D q) : Left D w w' := Left.of_grown hg (fun k e => by injection e with e; rw [← e]; exact hq)
/-- The contract of read, at a head of the pool. -/
theorem LQ.readC {b : List Int} {f : Nat} {w : World} {g : Nat} {D : Nat → Prop} {N : Nat} {s : PS} {q : Nat} {NA : Option Addr} {nc : Nat} {A : Option Addr} {n c : Nat} {pl : Nat → Nat} {l : List Hd} {cl pk : Nat} (h : LQ b f w g D N s q NA nc A n c pl l cl pk) (hN : N ≤ 4611686018427387904) (i k : Nat) (hk : k ≤ s.t.events.length) :
    ∃ sc, Calls Try.prog 31 #[.pointer (some ⟨g, 0, none⟩), .agg #[.int .i64 (hdOf s.t pl (i, k)).id, .int .i64 (hdOf s.t pl (i, k)).at_, .int .i64 (hdOf s.t pl (i, k)).ix, .int .u64 (hdOf s.t pl (i, k)).tm, .int .i64 (hdOf s.t pl (i, k)).ids]] w
      (GotRead (fun k => D k ∧ k < g ∧ k ≠ q) w q b sc f N (hdOf s.t pl (i, k)) (s.t.names.length : Nat)) := by
  obtain ⟨sc, hs⟩ := h.ln.src
  have h1 := h.walk.le k hk
  have h2 := h.walk.far k hk
  have h3 := hs.le
  have h4 := h.ln.len
  refine ⟨sc, Heads.readC _ g q b sc f N NA s.t.names.length nc _ _ _ _ _ (hdOf s.t pl (i, k)) w h.blk hs (fun j hj => h.ln.lt j hj.1) (by have := h.ln.qg; omega) hN (by omega) ?_ ?_⟩
  · show small64 ((pl k : Nat) : Int)
    exact ⟨by omega, by omega⟩
  · show 0 ≤ ((k : Nat) : Int) ∧ ((k : Nat) : Int) ≤ 1000000000000
    omega
theorem next_none {s : PS} {id : Int} (h : headP s.hs id = none) : nextP s id = (noEv, 11, s) := by unfold nextP; rw [h]
theorem next_some {s : PS} {id : Int} {k : Nat} (h : headP s.hs id = some k) (hk : k < s.t.events.length) : nextP s id = (s.t.events.getD k noEv, 0, meterP { s with hs := s.hs.set id.toNat (some (k + 1)) }) := by unfold nextP; rw [h]; simp only; rw [if_pos hk]
theorem next_end {s : PS} {id : Int} {k : Nat} (h : headP s.hs id = some k) (hk : ¬ k < s.t.events.length) : nextP s id = (noEv, s.er, s) := by unfold nextP; rw [h]; simp only; rw [if_neg hk]
/-- The move of a head, in a pool. -/
theorem move_turn {b : List Int} {f : Nat} {w w' : World} {g : Nat} {D : Nat → Prop} {N : Nat} {s : PS} {q : Nat} {NA : Option Addr} {nc : Nat} {r n c : Nat} {pl : Nat → Nat} {i k p : Nat} {A B : List (Nat × Nat)} (j : Nat)
    (h : LQ b f w g D N s q NA nc (some ⟨r, 0, none⟩) n c pl (hdsL s.t pl s.hs) (cellsP s.t s.hs) s.peak) (hi : s.hs[i]? = some (some k)) (e2 : opens 0 s.hs = A ++ (i, k) :: B) (e3 : A.length = p) (e4 : ∀ j, opens 0 (s.hs.set i (some j)) = A ++ (i, j) :: B)
    (hb : Blk w' g [.pointer (some ⟨q, 0, none⟩), .slice NA s.t.names.length nc, .int .i64 (pl 0 : Nat), .int .i64 s.size, .slice (some ⟨r, 0, none⟩) n c, .int .i64 (((cellsP s.t s.hs : Nat) : Int) + ((hdOf s.t pl (i, j)).ids - (hdOf s.t pl (i, k)).ids)), .int .i64 (max (s.peak : Int) (((cellsP s.t s.hs : Nat) : Int) + ((hdOf s.t pl (i, j)).ids - (hdOf s.t pl (i, k)).ids)))])
    (hr : w'.ownsRow (g + 1) 72 5 (.slice (some ⟨r, 0, none⟩) n c) n (rowHd ((hdsL s.t pl s.hs).set p (hdOf s.t pl (i, j))))) (hl : Left (fun k => k = g ∨ k = r) w w') :
    LandL b f w' g D N (meterP { s with hs := s.hs.set i (some j) }) := by
  have hc := cells_set (t := s.t) hi (some j)
  have c1 : cellP s.t (some k) = 3 + idsAt s.t k := rfl
  have c2 : cellP s.t (some j) = 3 + idsAt s.t j := rfl
  have e1 : ((cellsP s.t s.hs : Nat) : Int) + ((hdOf s.t pl (i, j)).ids - (hdOf s.t pl (i, k)).ids) = ((cellsP s.t (s.hs.set i (some j)) : Nat) : Int) := by
    show ((cellsP s.t s.hs : Nat) : Int) + (((idsAt s.t j : Nat) : Int) - ((idsAt s.t k : Nat) : Int)) = _
    omega
  have e5 : max (s.peak : Int) ((cellsP s.t (s.hs.set i (some j)) : Nat) : Int) = ((max s.peak (cellsP s.t (s.hs.set i (some j))) : Nat) : Int) := by omega
  rw [e1, e5] at hb
  rw [hds_set e2 e3 e4] at hr
  refine ⟨q, NA, nc, some ⟨r, 0, none⟩, n, c, pl, ⟨hb, ?_, hr, ?_, h.dv, h.walk⟩⟩
  · exact h.ln.keep hl.size (fun a ha hag => hl.block a (h.ln.lt a ha) (by
      have := (h.row.lt r rfl).1
      rintro (e | e) <;> omega))
  · show (hdsL s.t pl (s.hs.set i (some j))).length = n
    have := hr.1
    rw [rowHd_len] at this
    omega
end Go.Proofs.Ytimbbfneaaglbaa.Heads
