/-
  The walks of the reference's Holds, Cut, SameEvent, SameEvents, SameTrace; slices.Index, Contains and Equal over names and ids. By an AI agent.
-/
import Derived.Test.YtlkfdnbgplkiiaaTraceRef2
import Derived.Deep.RegionHeld3
namespace Go.Proofs.Ytlkfdnbgplkiiaa.Trace
open Go.RowKit Go.Proofs.Ytlkfdnbgplkiiaa.Ints Go.Proofs.Ytlkfdnbgplkiiaa.Mem

def idxL (l : List (List UInt8)) (x : List UInt8) : Int := if x ∈ l then ((l.idxOf x : Nat) : Int) else -1
theorem idx_from (l : List (List UInt8)) (x : ByteArray) (i : Nat) : Lib.idxFromS (l.map fun s => (⟨s.toArray⟩ : ByteArray)) x i = if x.data.toList ∈ l then ((i + l.idxOf x.data.toList : Nat) : Int) else -1 := by
  induction l generalizing i with
  | nil => rfl
  | cons z l ih =>
    have he : ((⟨z.toArray⟩ : ByteArray) = x) ↔ z = x.data.toList := by
      constructor
      · rintro rfl; rfl
      · rintro rfl; cases x; rfl
    rw [List.map_cons, Lib.idxFromS]
    by_cases h : z = x.data.toList
    · rw [if_pos (he.2 h), if_pos (by rw [h]; exact List.mem_cons_self), h, List.idxOf_cons_self]
      rfl
    · have hi : List.idxOf x.data.toList (z :: l) = List.idxOf x.data.toList l + 1 := by rw [List.idxOf_cons, cond_eq_ite, if_neg (by simpa using h)]
      rw [if_neg (fun e => h (he.1 e)), ih, hi]
      by_cases hm : x.data.toList ∈ l
      · rw [if_pos hm, if_pos (List.mem_cons_of_mem _ hm)]
        congr 1
        omega
      · rw [if_neg hm, if_neg (by rintro (_ | ⟨_, h2⟩); exact h rfl; exact hm h2)]
/-- slices.Index, at a list of names. -/
theorem indexStr (A : Option Addr) (n c : Nat) (l : List (List UInt8)) (x : ByteArray) (w : World) (hl : l.length = n) (hn : n ≤ maxLen) (h : Strs w A l) :
    Calls Try.prog 34 #[.slice A n c, .string x] w fun e w' => e = .returned (.int .i64 (idxL l x.data.toList)) ∧ w' = w := by
  subst hl
  have e0 : Lib.idxOfS (l.map fun s => (⟨s.toArray⟩ : ByteArray)) x = idxL l x.data.toList := by
    unfold Lib.idxOfS idxL
    rw [idx_from]
    simp
  by_cases h0 : l.length = 0
  · have : l = [] := List.eq_nil_of_length_eq_zero h0
    subst this
    exact Try.slices_Index_string_empty A c x w
  · obtain ⟨b, off, rfl, hc⟩ := h (by omega)
    refine (Try.slices_Index_string b off l.length c (l.map fun s => (⟨s.toArray⟩ : ByteArray)) x w (by rw [List.length_map]; exact Nat.le_refl _) hn (fun j hj => ?_)).mono fun e w' ⟨he, hw⟩ => ⟨?_, hw⟩
    · rw [List.length_map] at hj
      rw [hc j _ (List.getElem?_eq_getElem hj)]
      simp [List.getD, hj, strS]
    · rw [he, List.take_of_length_le (by rw [List.length_map]; exact Nat.le_refl _), e0]
/-- slices.Contains, at a list of ids. -/
theorem containsInt (A : Option Addr) (n c : Nat) (l : List Int) (x : Int) (w : World) (hn : n ≤ maxLen) (h : Rd .i64 w A n l) :
    Calls Try.prog 19 #[.slice A n c, .int .i64 x] w fun e w' => e = .returned (.bool (decide (x ∈ l))) ∧ w' = w := by
  by_cases h0 : n = 0
  · subst h0
    have : l = [] := List.eq_nil_of_length_eq_zero h.len
    subst this
    exact Try.slices_Contains_int_empty A c x w
  · obtain ⟨b, off, rfl, hc⟩ := h.cell (by omega)
    refine (Try.slices_Contains_int b off n c l x w (by rw [h.len]; exact Nat.le_refl _) hn (fun j hj => by have := hc j (by rw [← h.len]; exact hj); simpa [List.getD] using this)).mono fun e w' ⟨he, hw⟩ => ⟨?_, hw⟩
    rw [he, List.take_of_length_le (by rw [h.len]; exact Nat.le_refl _)]
    congr 2
    rw [Bool.eq_iff_iff, decide_eq_true_iff, List.contains_iff_mem]
theorem equalStrs (A1 A2 : Option Addr) (n1 c1 n2 c2 : Nat) (l1 l2 : List (List UInt8)) (w : World) (hl1 : l1.length = n1) (hl2 : l2.length = n2) (h1 : Strs w A1 l1) (h2 : Strs w A2 l2) (hb1 : n1 ≤ maxLen) (hb2 : n2 ≤ maxLen) :
    Calls Try.prog 38 #[.slice A1 n1 c1, .slice A2 n2 c2] w fun e w' => e = .returned (.bool (decide (l1 = l2))) ∧ ∃ q, w' = w.drewN q := by
  subst hl1; subst hl2
  by_cases hn : l1.length = l2.length
  · by_cases h0 : l1.length = 0
    · have e1 : l1 = [] := List.eq_nil_of_length_eq_zero h0
      have e2 : l2 = [] := List.eq_nil_of_length_eq_zero (by omega)
      subst e1; subst e2
      exact (Try.slices_Equal_string_empty A1 A2 c1 0 c2 w (by omega)).mono fun e w' ⟨he, hw⟩ => ⟨he, 0, hw⟩
    · obtain ⟨b1, o1, rfl, k1⟩ := h1 (by omega)
      obtain ⟨b2, o2, rfl, k2⟩ := h2 (by omega)
      refine (Try.slices_Equal_string b1 o1 l1.length c1 b2 o2 l2.length c2 (l1.map fun s => (⟨s.toArray⟩ : ByteArray)) (l2.map fun s => (⟨s.toArray⟩ : ByteArray)) w (by rw [List.length_map]; exact Nat.le_refl _) (by rw [List.length_map]; exact Nat.le_refl _) hb1 hb2 (fun j hj => ?_) (fun j hj => ?_)).mono fun e w' ⟨he, hw⟩ => ⟨?_, hw⟩
      · rw [List.length_map] at hj
        rw [k1 j _ (List.getElem?_eq_getElem hj)]
        simp [List.getD, hj, strS]
      · rw [List.length_map] at hj
        rw [k2 j _ (List.getElem?_eq_getElem hj)]
        simp [List.getD, hj, strS]
      · rw [he, List.take_of_length_le (by rw [List.length_map]; exact Nat.le_refl _), List.take_of_length_le (by rw [List.length_map]; exact Nat.le_refl _)]
        congr 2
        apply decide_eq_decide.2
        constructor
        · intro e
          have h3 := congrArg (List.map fun s : ByteArray => s.data.toList) e
          simpa [List.map_map, Function.comp_def] using h3
        · rintro rfl; rfl
  · have hne : decide (l1 = l2) = false := decide_eq_false fun e => hn (by rw [e])
    rw [hne]
    exact (Try.slices_Equal_string_lens A1 A2 l1.length c1 l2.length c2 w hn).mono fun e w' ⟨he, hw⟩ => ⟨he, 0, hw⟩
theorem equalInts (K1 K2 : Option Addr) (n1 c1 n2 c2 : Nat) (l1 l2 : List Int) (w : World) (h1 : Rd .i64 w K1 n1 l1) (h2 : Rd .i64 w K2 n2 l2) (hb1 : n1 ≤ maxLen) (hb2 : n2 ≤ maxLen) :
    Calls Try.prog 50 #[.slice K1 n1 c1, .slice K2 n2 c2] w fun e w' => e = .returned (.bool (decide (l1 = l2))) ∧ ∃ q, w' = w.drewN q := by
  have hm : maxLen = 9223372036854775807 := rfl
  by_cases hn : n1 = n2
  · subst hn
    by_cases h0 : n1 = 0
    · subst h0
      have e1 : l1 = [] := List.eq_nil_of_length_eq_zero h1.len
      have e2 : l2 = [] := List.eq_nil_of_length_eq_zero h2.len
      subst e1; subst e2
      exact (Try.slices_Equal_int_empty K1 K2 c1 0 c2 w (by omega)).mono fun e w' ⟨he, hw⟩ => ⟨he, 0, hw⟩
    · obtain ⟨b1, o1, rfl, k1⟩ := h1.cell (by omega)
      obtain ⟨b2, o2, rfl, k2⟩ := h2.cell (by omega)
      refine (Try.slices_Equal_int b1 o1 n1 c1 b2 o2 n1 c2 l1 l2 w (by rw [h1.len]; exact Nat.le_refl _) (by rw [h2.len]; exact Nat.le_refl _) (by omega) (by omega) (fun j hj => by have := k1 j (by rw [← h1.len]; exact hj); simpa [List.getD] using this) (fun j hj => by have := k2 j (by rw [← h2.len]; exact hj); simpa [List.getD] using this)).mono fun e w' ⟨he, hw⟩ => ⟨?_, hw⟩
      rw [he, List.take_of_length_le (by rw [h1.len]; exact Nat.le_refl _), List.take_of_length_le (by rw [h2.len]; exact Nat.le_refl _)]
      congr 2
      rw [Bool.eq_iff_iff, beq_iff_eq, decide_eq_true_iff]
  · have hne : decide (l1 = l2) = false := by
      rw [decide_eq_false_iff_not]
      intro e
      exact hn (by rw [← h1.len, ← h2.len, e])
    rw [hne]
    exact (Try.slices_Equal_int_lens K1 K2 n1 c1 n2 c2 w hn).mono fun e w' ⟨he, hw⟩ => ⟨he, 0, hw⟩

/-- The cells of a trace's box, behind a call. -/
theorem boxT_call {w W : World} {NA EA : Option Addr} {nn nc ne ec : Nat} (hb : Below (boxT w NA nn nc EA ne ec).heap.size (boxT w NA nn nc EA ne ec) W) : Below (w.heap.size + 1) (boxT w NA nn nc EA ne ec) W := by
  have e : (boxT w NA nn nc EA ne ec).heap.size = w.heap.size + 1 := by simp [boxT]
  rwa [e] at hb

set_option maxHeartbeats 4000000 in
set_option maxRecDepth 100000 in
theorem refHolds (NA : Option Addr) (nn nc : Nat) (EA : Option Addr) (ne ec : Nat) (t : Tr) (i : Int) (s : ByteArray) (w : World) (h : TrOk Any w NA nn nc EA ne ec t) (hi : small64 i) :
    Calls Try.prog 29 #[.agg #[.slice NA nn nc, .slice EA ne ec], .int .i64 i, .string s] w fun e w' => e = .returned (.bool (holdsT t i s.data.toList)) ∧ Below w.heap.size w w' := by
  have hm : maxLen = 9223372036854775807 := rfl
  have hni : (nn : Int) ≤ 9223372036854775807 := by have := h.ncap; omega
  have hei : (ne : Int) ≤ 9223372036854775807 := by have := h.ecap; omega
  obtain ⟨hi1, hi2⟩ := hi
  have hM := fun W (hb : Below w.heap.size w W) => refMay NA nn nc EA ne ec t W (h.below hb)
  rcases hmay : mayT t
  · have HR := Lib.hid (show holdsT t i s.data.toList = false by unfold holdsT; rw [hmay]; rfl)
    rw [hmay] at hM
    have HM := Lib.hid hM
    clear h hM hmay hm
    go_enter Try.func29, Try.ntmps29
    go_wp2_with (go_at_call 28; refine (HM.out _ ((Below.refl _ _).alloc (Nat.le_refl _) _)).mono ?_; rintro e w1 ⟨rfl, hb1⟩)
    go_ret
    exact ⟨by rw [HR.out]; rfl, boxT_below (boxT_call hb1)⟩
  · have HE := Lib.hid (show holdsT t i s.data.toList = (decide (0 ≤ i ∧ i < t.events.length) && (decide (s.data.toList ∈ t.names) && decide (((t.names.idxOf s.data.toList : Nat) : Int) ∈ (t.events.getD i.toNat noEv).ids))) by unfold holdsT; rw [hmay]; rfl)
    rw [hmay] at hM
    have HM := Lib.hid hM
    by_cases hlo : i < 0
    · have HR := Lib.hid (show holdsT t i s.data.toList = false by rw [HE.out, decide_eq_false (by omega)]; rfl)
      clear h hM hmay hm
      go_enter Try.func29, Try.ntmps29
      go_wp2_with (go_at_call 28; refine (HM.out _ ((Below.refl _ _).alloc (Nat.le_refl _) _)).mono ?_; rintro e w1 ⟨rfl, hb1⟩)
      go_ret
      exact ⟨by rw [HR.out]; rfl, boxT_below (boxT_call hb1)⟩
    · have hlo' : decide (i < 0) = false := decide_eq_false hlo
      by_cases hhi : (ne : Int) ≤ i
      · have HR := Lib.hid (show holdsT t i s.data.toList = false by rw [HE.out, decide_eq_false (by rw [h.elen]; omega)]; rfl)
        have hhi' : decide (i ≥ (ne : Int)) = true := decide_eq_true hhi
        clear h hM hmay hm
        go_enter Try.func29, Try.ntmps29
        go_wp2_with (go_at_call 28; refine (HM.out _ ((Below.refl _ _).alloc (Nat.le_refl _) _)).mono ?_; rintro e w1 ⟨rfl, hb1⟩; obtain ⟨t0, t1⟩ := boxT_at (boxT_call hb1))
        go_ret
        exact ⟨by rw [HR.out]; rfl, boxT_below (boxT_call hb1)⟩
      · have hhi' : decide (i ≥ (ne : Int)) = false := decide_eq_false hhi
        have hin := fun W (hb : Below w.heap.size w W) => indexStr NA nn nc t.names s W h.nlen (Nat.le_trans h.ncap.1 h.ncap.2) (h.names.below hb)
        obtain ⟨k, rfl⟩ := Int.eq_ofNat_of_zero_le (show 0 ≤ i by omega)
        have hk : k < ne := by omega
        have hlen : k < t.events.length := by rw [h.elen]; exact hk
        by_cases hmem : s.data.toList ∈ t.names
        · have hx : idxL t.names s.data.toList = ((t.names.idxOf s.data.toList : Nat) : Int) := if_pos hmem
          obtain ⟨d, hd⟩ : ∃ d, t.names.idxOf s.data.toList = d := ⟨_, rfl⟩
          have hdl : d < nn := by rw [← hd, ← h.nlen]; exact List.idxOf_lt_length_of_mem hmem
          rw [hd] at hx
          rw [hx] at hin
          obtain ⟨b, off, e, hc⟩ := h.evs (by omega)
          obtain ⟨-, -, K, c, x1, hK, hKc, hcK, -, -⟩ := hc k _ (List.getElem?_eq_getElem hlen)
          have hg : t.events.getD k noEv = t.events[k] := by simp [List.getD, hlen]
          rw [← hg] at x1 hK hKc
          obtain ⟨ev, hev⟩ : ∃ ev, t.events.getD k noEv = ev := ⟨_, rfl⟩
          rw [hev] at x1 hK hKc
          rw [Nat.mul_comm 2 k] at x1
          have hC := fun W (hb : Below w.heap.size w W) => containsInt K ev.ids.length c ev.ids (d : Int) W (Nat.le_trans hKc hcK) (hK.below hb)
          obtain ⟨r, hr⟩ : ∃ r, decide ((d : Int) ∈ ev.ids) = r := ⟨_, rfl⟩
          rw [hr] at hC
          obtain ⟨q, hq⟩ : ∃ q, ev.ids.length = q := ⟨_, rfl⟩
          rw [hq] at hC x1
          have HR := Lib.hid (show holdsT t (k : Int) s.data.toList = r by
            rw [HE.out, decide_eq_true (show (0 : Int) ≤ (k : Int) ∧ (k : Int) < (t.events.length : Int) by omega), decide_eq_true hmem, hd, Int.toNat_natCast, hev, hr]
            rfl)
          have HC := Lib.hid hC
          have HI := Lib.hid hin
          have HX := Lib.hid x1
          have hd0 : decide ((d : Int) ≥ 0) = true := by simp
          have hk0 : (0 : Int) ≤ (k : Int) := by omega
          have hk1 : (k : Int) < (ne : Int) := by omega
          subst e
          clear h hM hmay hm hin hmem hx hd hc hK hKc hcK hg hev hC hr hq x1 hlen
          go_enter Try.func29, Try.ntmps29
          go_wp2_with (first
            | (go_at_call 28; refine (HM.out _ ((Below.refl _ _).alloc (Nat.le_refl _) _)).mono ?_; rintro e w1 ⟨rfl, hb1⟩; obtain ⟨t0, t1⟩ := boxT_at (boxT_call hb1); have y1 := below_cell (boxT_below (boxT_call hb1)) HX.out)
            | (go_at_call 34; refine (HI.out _ (boxT_below (boxT_call hb1))).mono ?_; rintro e w' ⟨rfl, rfl⟩)
            | (go_at_call 19; refine (HC.out _ (boxT_below (boxT_call hb1))).mono ?_; rintro e w' ⟨rfl, rfl⟩))
          go_ret
          exact ⟨by rw [HR.out]; rfl, boxT_below (boxT_call hb1)⟩
        · have hx : idxL t.names s.data.toList = -1 := if_neg hmem
          rw [hx] at hin
          have HI := Lib.hid hin
          have HR := Lib.hid (show holdsT t (k : Int) s.data.toList = false by rw [HE.out, decide_eq_false hmem]; simp)
          clear h hM hmay hm hin hmem hx hlen
          go_enter Try.func29, Try.ntmps29
          go_wp2_with (first
            | (go_at_call 28; refine (HM.out _ ((Below.refl _ _).alloc (Nat.le_refl _) _)).mono ?_; rintro e w1 ⟨rfl, hb1⟩; obtain ⟨t0, t1⟩ := boxT_at (boxT_call hb1))
            | (go_at_call 34; refine (HI.out _ (boxT_below (boxT_call hb1))).mono ?_; rintro e w' ⟨rfl, rfl⟩))
          go_ret
          exact ⟨by rw [HR.out]; rfl, boxT_below (boxT_call hb1)⟩
end Go.Proofs.Ytlkfdnbgplkiiaa.Trace
