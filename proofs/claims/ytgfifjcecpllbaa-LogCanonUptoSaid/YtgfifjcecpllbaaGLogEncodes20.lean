/-
  The walks of the reference's Holds, Cut, SameEvent, SameEvents, SameTrace; slices.Index, Contains and Equal over names and ids. By an AI agent.
  The walks of the reference's Cut, SameEvent, SameEvents, SameTrace. By an AI agent.
-/
import Derived.Test.YtgfifjcecpllbaaGLogEncodes15
import Derived.Deep.RegionHeld3
import Derived.Test.YtgfifjcecpllbaaGLogEncodes12
import Derived.StillTailTactics
namespace Go.Proofs.Ytgfifjcecpllbaa.Trace
open Go.RowKit Go.Proofs.Ytgfifjcecpllbaa.Ints Go.Proofs.Ytgfifjcecpllbaa.Mem

def idxL (l : List (List UInt8)) (x : List UInt8) : Int := if x ∈ l then ((l.idxOf x : Nat) : Int) else -1
theorem idx_from (l : List (List UInt8)) (x : ByteArray) (i : Nat) : Lib.idxFromS (l.map fun s => (⟨s.toArray⟩ : ByteArray)) x i = if x.data.toList ∈ l then ((i + l.idxOf x.data.toList : Nat) : Int) else -1 := by
  induction l generalizing i with
  | nil => rfl
  | cons z l ih =>
    have he : ((⟨z.toArray⟩ : ByteArray) = x) ↔ z = x.data.toList := by
      constructor
      · rintro rfl; rfl
      · rintro rfl; cases x; rfl
    rw [List.map_cons, Lib.idxFromS]
    by_cases h : z = x.data.toList
    · rw [if_pos (he.2 h), if_pos (by rw [h]; exact List.mem_cons_self), h, List.idxOf_cons_self]
      rfl
    · have hi : List.idxOf x.data.toList (z :: l) = List.idxOf x.data.toList l + 1 := by rw [List.idxOf_cons, cond_eq_ite, if_neg (by simpa using h)]
      rw [if_neg (fun e => h (he.1 e)), ih, hi]
      by_cases hm : x.data.toList ∈ l
      · rw [if_pos hm, if_pos (List.mem_cons_of_mem _ hm)]
        congr 1
        omega
      · rw [if_neg hm, if_neg (by rintro (_ | ⟨_, h2⟩); exact h rfl; exact hm h2)]
/-- slices.Index, at a list of names. -/
theorem indexStr (A : Option Addr) (n c : Nat) (l : List (List UInt8)) (x : ByteArray) (w : World) (hl : l.length = n) (hn : n ≤ maxLen) (h : Strs w A l) :
    Calls Try.prog 62 #[.slice A n c, .string x] w fun e w' => e = .returned (.int .i64 (idxL l x.data.toList)) ∧ w' = w := by
  subst hl
  have e0 : Lib.idxOfS (l.map fun s => (⟨s.toArray⟩ : ByteArray)) x = idxL l x.data.toList := by
    unfold Lib.idxOfS idxL
    rw [idx_from]
    simp
  by_cases h0 : l.length = 0
  · have : l = [] := List.eq_nil_of_length_eq_zero h0
    subst this
    exact Try.slices_Index_string_empty A c x w
  · obtain ⟨b, off, rfl, hc⟩ := h (by omega)
    refine (Try.slices_Index_string b off l.length c (l.map fun s => (⟨s.toArray⟩ : ByteArray)) x w (by rw [List.length_map]; exact Nat.le_refl _) hn (fun j hj => ?_)).mono fun e w' ⟨he, hw⟩ => ⟨?_, hw⟩
    · rw [List.length_map] at hj
      rw [hc j _ (List.getElem?_eq_getElem hj)]
      simp [List.getD, hj, strS]
    · rw [he, List.take_of_length_le (by rw [List.length_map]; exact Nat.le_refl _), e0]
/-- slices.Contains, at a list of ids. -/
theorem equalStrs (A1 A2 : Option Addr) (n1 c1 n2 c2 : Nat) (l1 l2 : List (List UInt8)) (w : World) (hl1 : l1.length = n1) (hl2 : l2.length = n2) (h1 : Strs w A1 l1) (h2 : Strs w A2 l2) (hb1 : n1 ≤ maxLen) (hb2 : n2 ≤ maxLen) :
    Calls Try.prog 38 #[.slice A1 n1 c1, .slice A2 n2 c2] w fun e w' => e = .returned (.bool (decide (l1 = l2))) ∧ ∃ q, w' = w.drewN q := by
  subst hl1; subst hl2
  by_cases hn : l1.length = l2.length
  · by_cases h0 : l1.length = 0
    · have e1 : l1 = [] := List.eq_nil_of_length_eq_zero h0
      have e2 : l2 = [] := List.eq_nil_of_length_eq_zero (by omega)
      subst e1; subst e2
      exact (Try.slices_Equal_string_empty A1 A2 c1 0 c2 w (by omega)).mono fun e w' ⟨he, hw⟩ => ⟨he, 0, hw⟩
    · obtain ⟨b1, o1, rfl, k1⟩ := h1 (by omega)
      obtain ⟨b2, o2, rfl, k2⟩ := h2 (by omega)
      refine (Try.slices_Equal_string b1 o1 l1.length c1 b2 o2 l2.length c2 (l1.map fun s => (⟨s.toArray⟩ : ByteArray)) (l2.map fun s => (⟨s.toArray⟩ : ByteArray)) w (by rw [List.length_map]; exact Nat.le_refl _) (by rw [List.length_map]; exact Nat.le_refl _) hb1 hb2 (fun j hj => ?_) (fun j hj => ?_)).mono fun e w' ⟨he, hw⟩ => ⟨?_, hw⟩
      · rw [List.length_map] at hj
        rw [k1 j _ (List.getElem?_eq_getElem hj)]
        simp [List.getD, hj, strS]
      · rw [List.length_map] at hj
        rw [k2 j _ (List.getElem?_eq_getElem hj)]
        simp [List.getD, hj, strS]
      · rw [he, List.take_of_length_le (by rw [List.length_map]; exact Nat.le_refl _), List.take_of_length_le (by rw [List.length_map]; exact Nat.le_refl _)]
        congr 2
        apply decide_eq_decide.2
        constructor
        · intro e
          have h3 := congrArg (List.map fun s : ByteArray => s.data.toList) e
          simpa [List.map_map, Function.comp_def] using h3
        · rintro rfl; rfl
  · have hne : decide (l1 = l2) = false := decide_eq_false fun e => hn (by rw [e])
    rw [hne]
    exact (Try.slices_Equal_string_lens A1 A2 l1.length c1 l2.length c2 w hn).mono fun e w' ⟨he, hw⟩ => ⟨he, 0, hw⟩
/-- The cells of a trace's box, behind a call. -/
theorem boxT_call {w W : World} {NA EA : Option Addr} {nn nc ne ec : Nat} (hb : Below (boxT w NA nn nc EA ne ec).heap.size (boxT w NA nn nc EA ne ec) W) : Below (w.heap.size + 1) (boxT w NA nn nc EA ne ec) W := by
  have e : (boxT w NA nn nc EA ne ec).heap.size = w.heap.size + 1 := by simp [boxT]
  rwa [e] at hb

end Go.Proofs.Ytgfifjcecpllbaa.Trace

namespace Go.Proofs.Ytgfifjcecpllbaa.Trace
open Go.RowKit Go.Proofs.Ytgfifjcecpllbaa.Ints Go.Proofs.Ytgfifjcecpllbaa.Mem

/-- What a call that hands back a trace leaves. -/
def GotTr (w : World) (t : Tr) (e : Ending) (w' : World) : Prop :=
  ∃ NA nn nc EA ne ec, e = .returned (.agg #[.slice NA nn nc, .slice EA ne ec]) ∧ TrOk Any w' NA nn nc EA ne ec t ∧ Below w.heap.size w w'
theorem TrOk.none (S : Nat → Prop) (w : World) : TrOk S w none 0 0 none 0 0 noTr :=
  ⟨rfl, rfl, Strs.nil _ _, fun s hs => by simp [noTr] at hs, Evs.nil _ _ _, ⟨Nat.le_refl _, by decide⟩, ⟨Nat.le_refl _, by decide⟩⟩
theorem TrOk.cut {S : Nat → Prop} {w : World} {NA EA : Option Addr} {nn nc ne ec : Nat} {t : Tr} (h : TrOk S w NA nn nc EA ne ec t) {k : Nat} (hk : k ≤ ne) : TrOk S w NA nn nc EA k ec ⟨t.names, t.events.take k⟩ :=
  ⟨h.1, by rw [List.length_take, h.2]; omega, h.3, h.4, h.5.take k, h.6, ⟨Nat.le_trans hk h.7.1, h.7.2⟩⟩
theorem below_two {w w1 : World} {o o' : Obj} (hb : Below ((w.alloc o).alloc o').heap.size ((w.alloc o).alloc o') w1) (u0 u1 : Value) :
    Below w.heap.size w ((w1.setCell ⟨w.heap.size + 1, 0, none⟩ u0).setCell ⟨w.heap.size + 1, 1, none⟩ u1) := by
  have h0 : Below w.heap.size w w1 := (((Below.refl _ w).alloc (Nat.le_refl _) o).alloc (by simp) o').trans (hb.mono (by simp; omega))
  exact (h0.setCell (p := ⟨w.heap.size + 1, 0, none⟩) (by show w.heap.size ≤ w.heap.size + 1; omega) u0).setCell (p := ⟨w.heap.size + 1, 1, none⟩) (by show w.heap.size ≤ w.heap.size + 1; omega) u1
theorem below_two1 {w w1 : World} {o o' : Obj} (hb : Below ((w.alloc o).alloc o').heap.size ((w.alloc o).alloc o') w1) : Below (w.heap.size + 1) (w.alloc o) w1 :=
  ((Below.refl _ (w.alloc o)).alloc (by simp) o').trans (hb.mono (by simp))

theorem sizeElemEvents : (Try.prog.info? (Try.prog.elem 23)).map (·.size) = some 2 := by kernel_rfl
theorem typeEvents : Try.prog.underlying 23 = some (.slice (Try.prog.elem 23)) := by kernel_rfl

set_option maxHeartbeats 4000000 in
set_option maxRecDepth 100000 in
theorem refCut (NA : Option Addr) (nn nc : Nat) (EA : Option Addr) (ne ec : Nat) (t : Tr) (i : Int) (w : World) (h : TrOk Any w NA nn nc EA ne ec t) (hi : small64 i) :
    Calls Try.prog 22 #[.agg #[.slice NA nn nc, .slice EA ne ec], .int .i64 i] w (GotTr w (cutT t i)) := by
  have hm : maxLen = 9223372036854775807 := rfl
  have hni : (nn : Int) ≤ 9223372036854775807 := by have := h.ncap; omega
  have hei : (ne : Int) ≤ 9223372036854775807 := by have := h.ecap; omega
  obtain ⟨hi1, hi2⟩ := hi
  have hM := fun W (hb : Below w.heap.size w W) => refMay NA nn nc EA ne ec t W (h.below hb)
  rcases hmay : mayT t
  · have HR := Lib.hid (show cutT t i = noTr by unfold cutT; rw [hmay]; rfl)
    rw [hmay] at hM
    have HM := Lib.hid hM
    clear h hM hmay hm
    go_enter Try.func22, Try.ntmps22
    go_wp2_with (go_at_call 18; refine (HM.out _ (((Below.refl _ _).alloc (Nat.le_refl _) _).alloc (le_alloc (Nat.le_refl _)) _)).mono ?_; rintro e w1 ⟨rfl, hb1⟩; obtain ⟨hc, hf⟩ := fcell hb1; have hz : w.heap.size + 1 < w1.heap.size := by have := hb1.size; simp at this; omega)
    refine bodyPost_ret (v := .agg #[.slice none 0 0, .slice none 0 0]) (by simp [results, Try.results22, go_sem, hc]) rfl ?_
    rw [HR.out]
    exact ⟨_, _, _, _, _, _, rfl, TrOk.none _ _, below_two hb1 _ _⟩
  · obtain ⟨k, hk, hkn, hkt⟩ : ∃ k : Nat, min (max i 0) (ne : Int) = (k : Int) ∧ k ≤ ne ∧ t.events.take i.toNat = t.events.take k := by
      refine ⟨min i.toNat ne, by omega, by omega, ?_⟩
      have hl := h.elen
      rcases Nat.le_total i.toNat ne with h1 | h1
      · rw [Nat.min_eq_left h1]
      · rw [Nat.min_eq_right h1, List.take_of_length_le (by omega), List.take_of_length_le (by omega)]
    have HR := Lib.hid (show cutT t i = ⟨t.names, t.events.take k⟩ by unfold cutT; rw [hmay, if_pos rfl, hkt])
    have HO := Lib.hid (fun W (hb : Below w.heap.size w W) => (h.below hb).cut hkn)
    rw [hmay] at hM
    have HM := Lib.hid hM
    have hke : (k : Int) ≤ (ne : Int) := by omega
    have hec : (ne : Int) ≤ (ec : Int) := by have := h.ecap.1; omega
    have hk0 : (0 : Int) ≤ (k : Int) := by omega
    have hsl := slice_upto (P := Try.prog) 23 typeEvents 2 sizeElemEvents EA ne ec k (by have := h.ecap.1; omega)
    clear h hM hmay hm hkt
    go_enter Try.func22, Try.ntmps22
    go_wp2_with (go_at_call 18; refine (HM.out _ (((Below.refl _ _).alloc (Nat.le_refl _) _).alloc (le_alloc (Nat.le_refl _)) _)).mono ?_; rintro e w1 ⟨rfl, hb1⟩; obtain ⟨hc, hf⟩ := fcell hb1; obtain ⟨t0, t1⟩ := boxT_at (below_two1 hb1); have hz : w.heap.size + 1 < w1.heap.size := by have := hb1.size; simp at this; omega)
    go_still_tail 7, (by kernel_rfl)
    go_wp2
    refine bodyPost_ret (v := .agg #[.slice NA nn nc, .slice EA k ec]) (by simp [results, Try.results22, go_sem, hc]) rfl ?_
    rw [HR.out]
    exact ⟨_, _, _, _, _, _, rfl, HO.out _ (below_two hb1 _ _).drew, (below_two hb1 _ _).drew⟩

theorem undrew1 {w w' : World} (hb : Below w.drew.heap.size w.drew w') : Below w.heap.size w w' := ((Below.refl _ w).drew).trans hb
theorem Evs.kids {S : Nat → Prop} {w : World} {A : Option Addr} {l : List Ev} (h : Evs S w A l) {k : Nat} (hk : k < l.length) :
    ∃ b off K c, A = some ⟨b, off, none⟩ ∧ w.cell? ⟨b, off + k * 2, none⟩ = some (.int .u64 (l.getD k noEv).time) ∧ w.cell? ⟨b, off + k * 2 + 1, none⟩ = some (.slice K (l.getD k noEv).ids.length c) ∧ EvOk w (l.getD k noEv) K c := by
  obtain ⟨b, off, e, hc⟩ := h (by omega)
  obtain ⟨x0, hw, K, c, x1, hK, hKc, hcK, -, -⟩ := hc k _ (List.getElem?_eq_getElem hk)
  have hg : l.getD k noEv = l[k] := by simp [List.getD, hk]
  rw [← hg] at x0 hw x1 hK hKc
  rw [Nat.mul_comm 2 k] at x0 x1
  exact ⟨b, off, K, c, e, x0, x1, hw, hK, hKc, hcK⟩
theorem evs_ext {l m : List Ev} (hl : l.length = m.length) (h : ∀ j : Nat, j < l.length → l.getD j noEv = m.getD j noEv) : l = m := by
  apply List.ext_getElem hl
  intro j h1 h2
  have := h j h1
  simpa [List.getD, h1, h2] using this

set_option maxHeartbeats 8000000 in
set_option maxRecDepth 100000 in
theorem refSameEvents (A B : Option Addr) (n c m d : Nat) (a b : List Ev) (w : World) (ha : a.length = n) (hb : b.length = m) (hn : n ≤ maxLen) (hA : Evs Any w A a) (hB : Evs Any w B b) :
    Calls Try.prog 39 #[.slice A n c, .slice B m d] w fun e w' => e = .returned (.bool (decide (a = b))) ∧ Below w.heap.size w w' := by
  have hni : (n : Int) ≤ 9223372036854775807 := by have : maxLen = 9223372036854775807 := rfl; omega
  have HLA := Lib.hid ha
  have HLB := Lib.hid hb
  have HNA := Lib.hid hA
  have HNB := Lib.hid hB
  clear ha hb hA hB hn
  by_cases hnm : n = m
  · subst hnm
    have hne : ((n : Int) != (n : Int)) = false := by simp
    go_enter Try.func39, Try.ntmps39
    go_wp2
    go_loopw [13] (fun i wr => ∃ k : Nat, k ≤ n ∧ i = .int .i64 k ∧ Below w.heap.size w wr ∧ Hid (∀ j : Nat, j < k → a.getD j noEv = b.getD j noEv)) (fun i _ => n - (intOf i).toNat)
    case atStart => exact ⟨0, Nat.zero_le _, rfl, Below.refl _ _, fun j hj => absurd hj (by omega)⟩
    case round =>
      obtain ⟨k, hk, rfl, hB, HZ⟩ := hrel
      have HB := Lib.hid hB
      clear hB
      by_cases hkn : k < n
      · have hkn' : (k : Int) < (n : Int) := by omega
        have hk0 : (0 : Int) ≤ (k : Int) := by omega
        have hka : k < a.length := by have := HLA.out; omega
        have hkb : k < b.length := by have := HLB.out; omega
        obtain ⟨b1, off1, K1, c1, e1, x0, x1, hX⟩ := (HNA.out.below HB.out).kids hka
        obtain ⟨b2, off2, K2, c2, e2, y0, y1, hY⟩ := (HNB.out.below HB.out).kids hkb
        have hS := fun W (hb : Below wr.heap.size wr W) => refSameEvent (a.getD k noEv) (b.getD k noEv) K1 K2 c1 c2 W (hX.below hb) (hY.below hb)
        obtain ⟨x, hx⟩ : ∃ x, a.getD k noEv = x := ⟨_, rfl⟩
        obtain ⟨y, hy⟩ : ∃ y, b.getD k noEv = y := ⟨_, rfl⟩
        rw [hx] at x0 x1 hS
        rw [hy] at y0 y1 hS
        obtain ⟨n1, hn1⟩ : ∃ n, x.ids.length = n := ⟨_, rfl⟩
        obtain ⟨n2, hn2⟩ : ∃ n, y.ids.length = n := ⟨_, rfl⟩
        rw [hn1] at x1 hS
        rw [hn2] at y1 hS
        have HXE := Lib.hid hx
        have HYE := Lib.hid hy
        have HKA := Lib.hid hka
        subst e1
        subst e2
        obtain ⟨t1, ht1⟩ : ∃ t, x.time = t := ⟨_, rfl⟩
        obtain ⟨t2, ht2⟩ : ∃ t, y.time = t := ⟨_, rfl⟩
        rw [ht1] at x0 hS
        rw [ht2] at y0 hS
        by_cases hxy : x = y
        · rw [decide_eq_true hxy] at hS
          have HS := Lib.hid hS
          have HZ2 := Lib.hid (good_more HZ.out (p := fun j => a.getD j noEv = b.getD j noEv) (k := k) (by rw [HXE.out, HYE.out]; exact hxy))
          clear hS hX hY hx hy hn1 hn2 ht1 ht2 hka hkb hxy
          go_wp2
          go_still_tail 8, (by kernel_rfl)
          go_wp2_with (go_at_call 54; refine (HS.out _ (Below.refl _ _).drew).mono ?_; rintro e w1 ⟨rfl, hb1⟩)
          go_roundw
          case rel => exact ⟨k + 1, by omega, by go_num, HB.out.trans ((undrew1 hb1).mono HB.out.size), HZ2⟩
          case measure => simp [intOf]; omega
        · rw [decide_eq_false hxy] at hS
          have HS := Lib.hid hS
          have HR := Lib.hid (show decide (a = b) = false from decide_eq_false fun e => hxy (by rw [← HXE.out, ← HYE.out, e]))
          clear hS hX hY hx hy hn1 hn2 ht1 ht2 hka hkb hxy
          go_wp2
          go_still_tail 8, (by kernel_rfl)
          go_wp2_with (go_at_call 54; refine (HS.out _ (Below.refl _ _).drew).mono ?_; rintro e w1 ⟨rfl, hb1⟩)
          go_ret
          exact ⟨by rw [HR.out]; rfl, HB.out.trans ((undrew1 hb1).mono HB.out.size)⟩
      · have hge : decide ((k : Int) < (n : Int)) = false := by simp; omega
        have HR := Lib.hid (show decide (a = b) = true from decide_eq_true (evs_ext (by rw [HLA.out, HLB.out]) (fun j hj => HZ.out j (by have := HLA.out; omega))))
        go_wp2
        go_ret
        exact ⟨by rw [HR.out]; rfl, HB.out⟩
  · have hne : ((n : Int) != (m : Int)) = true := by simp; omega
    have HR := Lib.hid (show decide (a = b) = false from decide_eq_false fun e => hnm (by rw [← HLA.out, ← HLB.out, e]))
    clear hnm
    go_enter Try.func39, Try.ntmps39
    go_wp2
    go_ret
    exact ⟨by rw [HR.out]; rfl, Below.refl _ _⟩

theorem tr_eq (x y : Tr) : decide (x = y) = (decide (x.names = y.names) && decide (x.events = y.events)) := by
  cases x; cases y
  simp only [Tr.mk.injEq, Bool.decide_and]
/-- Both boxes' cells. -/
theorem boxT2_at {w W : World} {NA EA NB EB : Option Addr} {nn nc ne ec mn mc me mk : Nat} (hb : Below (w.heap.size + 2) (boxT (boxT w NA nn nc EA ne ec) NB mn mc EB me mk) W) :
    W.cell? ⟨w.heap.size, 0, none⟩ = some (.slice NA nn nc) ∧ W.cell? ⟨w.heap.size, 1, none⟩ = some (.slice EA ne ec) ∧ W.cell? ⟨w.heap.size + 1, 0, none⟩ = some (.slice NB mn mc) ∧ W.cell? ⟨w.heap.size + 1, 1, none⟩ = some (.slice EB me mk) := by
  have e : (boxT w NA nn nc EA ne ec).heap.size = w.heap.size + 1 := by simp [boxT]
  have h1 : Below (w.heap.size + 1) (boxT w NA nn nc EA ne ec) W := ((Below.refl _ (boxT w NA nn nc EA ne ec)).alloc (by omega) _).trans (hb.mono (by omega))
  obtain ⟨a, b⟩ := boxT_at h1
  have h2 := boxT_at (w := boxT w NA nn nc EA ne ec) (NA := NB) (nn := mn) (nc := mc) (EA := EB) (ne := me) (ec := mk) (W := W) (by rw [e]; exact hb)
  rw [e] at h2
  exact ⟨a, b, h2.1, h2.2⟩
theorem boxT2_below {w W : World} {NA EA NB EB : Option Addr} {nn nc ne ec mn mc me mk : Nat} (hb : Below (w.heap.size + 2) (boxT (boxT w NA nn nc EA ne ec) NB mn mc EB me mk) W) : Below w.heap.size w W :=
  (((Below.refl _ w).alloc (Nat.le_refl _) _).alloc (by simp) _).trans (hb.mono (by omega))
theorem boxT2_call {w W : World} {NA EA NB EB : Option Addr} {nn nc ne ec mn mc me mk : Nat} (hb : Below (boxT (boxT w NA nn nc EA ne ec) NB mn mc EB me mk).heap.size (boxT (boxT w NA nn nc EA ne ec) NB mn mc EB me mk) W) : Below (w.heap.size + 2) (boxT (boxT w NA nn nc EA ne ec) NB mn mc EB me mk) W := by
  have e : (boxT (boxT w NA nn nc EA ne ec) NB mn mc EB me mk).heap.size = w.heap.size + 2 := by simp [boxT]
  rwa [e] at hb

set_option maxHeartbeats 4000000 in
set_option maxRecDepth 100000 in
theorem refSameTrace (NA : Option Addr) (nn nc : Nat) (EA : Option Addr) (ne ec : Nat) (NB : Option Addr) (mn mc : Nat) (EB : Option Addr) (me mk : Nat) (t u : Tr) (w : World)
    (h : TrOk Any w NA nn nc EA ne ec t) (k : TrOk Any w NB mn mc EB me mk u) :
    Calls Try.prog 21 #[.agg #[.slice NA nn nc, .slice EA ne ec], .agg #[.slice NB mn mc, .slice EB me mk]] w fun e w' => e = .returned (.bool (decide (t = u))) ∧ Below w.heap.size w w' := by
  have hE := fun W (hb : Below w.heap.size w W) => equalStrs NA NB nn nc mn mc t.names u.names W h.nlen k.nlen (h.names.below hb) (k.names.below hb) (Nat.le_trans h.ncap.1 h.ncap.2) (Nat.le_trans k.ncap.1 k.ncap.2)
  have hF := fun W (hb : Below w.heap.size w W) => refSameEvents EA EB ne ec me mk t.events u.events W h.elen k.elen (Nat.le_trans h.ecap.1 h.ecap.2) (h.evs.below hb) (k.evs.below hb)
  rw [tr_eq]
  obtain ⟨p, hp⟩ : ∃ r, decide (t.names = u.names) = r := ⟨_, rfl⟩
  obtain ⟨q, hq⟩ : ∃ r, decide (t.events = u.events) = r := ⟨_, rfl⟩
  rw [hp] at hE ⊢
  rw [hq] at hF ⊢
  have HE := Lib.hid hE
  have HF := Lib.hid hF
  clear hE hF hp hq h k
  cases p
  · go_enter Try.func21, Try.ntmps21
    go_wp2_with (go_at_call 38; refine (HE.out _ (((Below.refl _ _).alloc (Nat.le_refl _) _).alloc (le_alloc (Nat.le_refl _)) _)).mono ?_; rintro e w' ⟨rfl, z, rfl⟩)
    go_ret
    exact ⟨rfl, below_drewN (((Below.refl _ _).alloc (Nat.le_refl _) _).alloc (le_alloc (Nat.le_refl _)) _) _⟩
  · go_enter Try.func21, Try.ntmps21
    go_wp2_with (first
      | (go_at_call 38; refine (HE.out _ (((Below.refl _ _).alloc (Nat.le_refl _) _).alloc (le_alloc (Nat.le_refl _)) _)).mono ?_; rintro e w' ⟨rfl, z, rfl⟩)
      | (go_at_call 39; refine (HF.out _ (below_drewN (((Below.refl _ _).alloc (Nat.le_refl _) _).alloc (le_alloc (Nat.le_refl _)) _) _)).mono ?_; rintro e w1 ⟨rfl, hb1⟩))
    go_ret
    exact ⟨by simp, (below_drewN (((Below.refl _ _).alloc (Nat.le_refl _) _).alloc (le_alloc (Nat.le_refl _)) _) _).trans (hb1.mono (by simp; omega))⟩
end Go.Proofs.Ytgfifjcecpllbaa.Trace
