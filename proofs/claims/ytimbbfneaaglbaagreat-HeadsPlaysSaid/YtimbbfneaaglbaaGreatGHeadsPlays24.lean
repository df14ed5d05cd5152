/-
  The walks of the reference's Holds, Cut, SameEvent, SameEvents, SameTrace; slices.Index, Contains and Equal over names and ids. By an AI agent.
  The law's did (stage 13): one call on both pools. By an AI agent.
-/
import Derived.Test.YtimbbfneaaglbaaGreatGHeadsPlays16
import Derived.Deep.RegionHeld3
import Derived.Test.YtimbbfneaaglbaaGreatGHeadsPlays12
import Derived.Test.YtimbbfneaaglbaaGreatGHeadsPlays23
namespace Go.Proofs.YtimbbfneaaglbaaGreat.Trace
open Go.RowKit Go.Proofs.YtimbbfneaaglbaaGreat.Ints Go.Proofs.YtimbbfneaaglbaaGreat.Mem

def idxL (l : List (List UInt8)) (x : List UInt8) : Int := if x ∈ l then ((l.idxOf x : Nat) : Int) else -1
theorem idx_from (l : List (List UInt8)) (x : ByteArray) (i : Nat) : Lib.idxFromS (l.map fun s => (⟨s.toArray⟩ : ByteArray)) x i = if x.data.toList ∈ l then ((i + l.idxOf x.data.toList : Nat) : Int) else -1 := by
  induction l generalizing i with
  | nil => rfl
  | cons z l ih =>
    have he : ((⟨z.toArray⟩ : ByteArray) = x) ↔ z = x.data.toList := by
      constructor
      · rintro rfl; rfl
      · rintro rfl; cases x; rfl
    rw [List.map_cons, Lib.idxFromS]
    by_cases h : z = x.data.toList
    · rw [if_pos (he.2 h), if_pos (by rw [h]; exact List.mem_cons_self), h, List.idxOf_cons_self]
      rfl
    · have hi : List.idxOf x.data.toList (z :: l) = List.idxOf x.data.toList l + 1 := by rw [List.idxOf_cons, cond_eq_ite, if_neg (by simpa using h)]
      rw [if_neg (fun e => h (he.1 e)), ih, hi]
      by_cases hm : x.data.toList ∈ l
      · rw [if_pos hm, if_pos (List.mem_cons_of_mem _ hm)]
        congr 1
        omega
      · rw [if_neg hm, if_neg (by rintro (_ | ⟨_, h2⟩); exact h rfl; exact hm h2)]
/-- slices.Index, at a list of names. -/
theorem indexStr (A : Option Addr) (n c : Nat) (l : List (List UInt8)) (x : ByteArray) (w : World) (hl : l.length = n) (hn : n ≤ maxLen) (h : Strs w A l) :
    Calls Tryz.prog 100 #[.slice A n c, .string x] w fun e w' => e = .returned (.int .i64 (idxL l x.data.toList)) ∧ w' = w := by
  subst hl
  have e0 : Lib.idxOfS (l.map fun s => (⟨s.toArray⟩ : ByteArray)) x = idxL l x.data.toList := by
    unfold Lib.idxOfS idxL
    rw [idx_from]
    simp
  by_cases h0 : l.length = 0
  · have : l = [] := List.eq_nil_of_length_eq_zero h0
    subst this
    exact Tryz.slices_Index_string_empty A c x w
  · obtain ⟨b, off, rfl, hc⟩ := h (by omega)
    refine (Tryz.slices_Index_string b off l.length c (l.map fun s => (⟨s.toArray⟩ : ByteArray)) x w (by rw [List.length_map]; exact Nat.le_refl _) hn (fun j hj => ?_)).mono fun e w' ⟨he, hw⟩ => ⟨?_, hw⟩
    · rw [List.length_map] at hj
      rw [hc j _ (List.getElem?_eq_getElem hj)]
      simp [List.getD, hj, strS]
    · rw [he, List.take_of_length_le (by rw [List.length_map]; exact Nat.le_refl _), e0]
/-- slices.Contains, at a list of ids. -/
theorem equalStrs (A1 A2 : Option Addr) (n1 c1 n2 c2 : Nat) (l1 l2 : List (List UInt8)) (w : World) (hl1 : l1.length = n1) (hl2 : l2.length = n2) (h1 : Strs w A1 l1) (h2 : Strs w A2 l2) (hb1 : n1 ≤ maxLen) (hb2 : n2 ≤ maxLen) :
    Calls Tryz.prog 19 #[.slice A1 n1 c1, .slice A2 n2 c2] w fun e w' => e = .returned (.bool (decide (l1 = l2))) ∧ ∃ q, w' = w.drewN q := by
  subst hl1; subst hl2
  by_cases hn : l1.length = l2.length
  · by_cases h0 : l1.length = 0
    · have e1 : l1 = [] := List.eq_nil_of_length_eq_zero h0
      have e2 : l2 = [] := List.eq_nil_of_length_eq_zero (by omega)
      subst e1; subst e2
      exact (Tryz.slices_Equal_string_empty A1 A2 c1 0 c2 w (by omega)).mono fun e w' ⟨he, hw⟩ => ⟨he, 0, hw⟩
    · obtain ⟨b1, o1, rfl, k1⟩ := h1 (by omega)
      obtain ⟨b2, o2, rfl, k2⟩ := h2 (by omega)
      refine (Tryz.slices_Equal_string b1 o1 l1.length c1 b2 o2 l2.length c2 (l1.map fun s => (⟨s.toArray⟩ : ByteArray)) (l2.map fun s => (⟨s.toArray⟩ : ByteArray)) w (by rw [List.length_map]; exact Nat.le_refl _) (by rw [List.length_map]; exact Nat.le_refl _) hb1 hb2 (fun j hj => ?_) (fun j hj => ?_)).mono fun e w' ⟨he, hw⟩ => ⟨?_, hw⟩
      · rw [List.length_map] at hj
        rw [k1 j _ (List.getElem?_eq_getElem hj)]
        simp [List.getD, hj, strS]
      · rw [List.length_map] at hj
        rw [k2 j _ (List.getElem?_eq_getElem hj)]
        simp [List.getD, hj, strS]
      · rw [he, List.take_of_length_le (by rw [List.length_map]; exact Nat.le_refl _), List.take_of_length_le (by rw [List.length_map]; exact Nat.le_refl _)]
        congr 2
        apply decide_eq_decide.2
        constructor
        · intro e
          have h3 := congrArg (List.map fun s : ByteArray => s.data.toList) e
          simpa [List.map_map, Function.comp_def] using h3
        · rintro rfl; rfl
  · have hne : decide (l1 = l2) = false := decide_eq_false fun e => hn (by rw [e])
    rw [hne]
    exact (Tryz.slices_Equal_string_lens A1 A2 l1.length c1 l2.length c2 w hn).mono fun e w' ⟨he, hw⟩ => ⟨he, 0, hw⟩
/-- The cells of a trace's box, behind a call. -/
theorem boxT_call {w W : World} {NA EA : Option Addr} {nn nc ne ec : Nat} (hb : Below (boxT w NA nn nc EA ne ec).heap.size (boxT w NA nn nc EA ne ec) W) : Below (w.heap.size + 1) (boxT w NA nn nc EA ne ec) W := by
  have e : (boxT w NA nn nc EA ne ec).heap.size = w.heap.size + 1 := by simp [boxT]
  rwa [e] at hb

end Go.Proofs.YtimbbfneaaglbaaGreat.Trace

namespace Go.Proofs.YtimbbfneaaglbaaGreat.Heads
open Go.RowKit Go.Proofs.YtimbbfneaaglbaaGreat.Ints Go.Proofs.YtimbbfneaaglbaaGreat.Mem Go.Proofs.YtimbbfneaaglbaaGreat.Trace Go.Proofs.YtimbbfneaaglbaaGreat.Record Go.Proofs.YtimbbfneaaglbaaGreat.Log Go.Proofs.YtimbbfneaaglbaaGreat.Src

/-- One call. -/
def didP (s : PS) (r : Nat) (id k : Int) : PS := match r with
  | 0 => (addP s 0).2.2
  | 1 => (cloneP s id).2.2
  | 2 => (nextP s id).2.2
  | 3 => (seekP s id k).2
  | _ => (closeP s id).2
theorem OkP.did {s : PS} (h : OkP s) (r : Nat) (id k : Int) : OkP (didP s r id k) := by
  unfold didP
  split
  · exact h.add (Nat.zero_le _)
  · exact h.clone id
  · exact h.next id
  · exact h.seek id k
  · exact h.close id
theorem evok_kept {w w' : World} {x : Ev} {K : Option Addr} {c : Nat} (h : EvOk w x K c) (hk : ∀ a, K = some a → 0 < x.ids.length → w'.heap[a.block]? = w.heap[a.block]?) : EvOk w' x K c := by
  rcases Nat.eq_zero_or_pos x.ids.length with h0 | h0
  · have e : x.ids = [] := List.eq_nil_of_length_eq_zero h0
    exact ⟨h.1, by rw [h0, e]; exact Rd.nil _ _ _, h.2.2⟩
  · refine ⟨h.1, h.2.1.keep (fun p u hp hu => ?_), h.2.2⟩
    obtain ⟨a, ha, hb⟩ := Option.map_eq_some_iff.1 hp
    have he : w'.heap[p.block]? = w.heap[p.block]? := by rw [← hb]; exact hk a ha h0
    exact (World.cell?_of_block he).trans hu

set_option maxHeartbeats 8000000 in
set_option maxRecDepth 100000 in
theorem lawDid {L : LPool} (C : PoolC L) {b : List Int} {f : Nat} {X : Nat → Prop} {w : World} {gp gr base B : Nat} {s : PS} (h : BothP L b f X w gp gr base B s s) (hok : OkP s) (hl : s.hs.length ≤ 100000) (hpk : s.peak ≤ 4611686018427387904) (hB : B ≤ 1152921504606846976)
    (a : Int) (r : Nat) (hr : a % 5 = (r : Int)) (ha : 0 ≤ a ∧ a ≤ 255) (id k : Int) (hid : small64 id) (hk : small64 k) :
    Calls Tryz.prog 21 #[.pointer (some ⟨gp, 0, none⟩), .pointer (some ⟨gr, 0, none⟩), .agg #[.int .u8 a, .int .i64 id, .int .i64 k]] w fun e w' => e = .returned (.bool true) ∧ Step L b f X w w' gp gr base (B + 1099511627776) (didP s r id k) (didP s r id k) := by
  have q63 : maxLen = 9223372036854775807 := rfl
  have h0 := h.box C (.cells #[.int .u8 a, .int .i64 id, .int .i64 k] 59)
  have hbx := Blk.new w #[.int .u8 a, .int .i64 id, .int .i64 k] 59 [.int .u8 a, .int .i64 id, .int .i64 k] rfl
  have hal := (Below.refl _ w).alloc (Nat.le_refl _) (.cells #[.int .u8 a, .int .i64 id, .int .i64 k] 59)
  obtain ⟨w0, hw0⟩ : ∃ w0, w.alloc (.cells #[.int .u8 a, .int .i64 id, .int .i64 k] 59) = w0 := ⟨_, rfl⟩
  rw [hw0] at h0 hbx hal
  have x0 := hbx.cell 0 rfl
  have x1 := hbx.cell 1 rfl
  have x2 := hbx.cell 2 rfl
  have HB := Lib.hid hbx
  have HAL := Lib.hid hal
  have HX := Lib.hid (fun q (hq : X q) => h.lt q hq)
  have HBS := Lib.hid h.base
  have H0 := Lib.hid h0
  have hr5 : r < 5 := by omega
  clear hbx hal h0 h
  by_cases e0 : r = 0
  · subst e0
    have hr : a % 5 = 0 := hr
    obtain ⟨T, hT⟩ : ∃ T, addP s 0 = T := ⟨_, rfl⟩
    obtain ⟨u, v, s'⟩ := T
    have hE : didP s 0 id k = s' := by show (addP s 0).2.2 = s'; rw [hT]
    have HO := H0.out.land C (fun D N hL hN => C.open_ b f w0 gp D N s hL hok hl (by omega))
    rw [hT] at HO
    have HO := Lib.hid HO
    have HF := Lib.hid (fun W (hb : BothP L b f (fun q => X q ∨ q = w.heap.size) W gp gr base (B + 1099511627776) s' s) => hb.ref C (fun D hr => refNew W gr D s hr hok hl hpk 0 (Nat.zero_le _)))
    rw [hT] at HF
    rw [hE]
    clear hT hE
    go_enter Tryz.func21, Tryz.ntmps21
    go_wp2_with fail
    refine HO.out.mono ?_
    rintro e w1 ⟨rfl, hs1⟩
    have HS1 := Lib.hid hs1
    have hb1 := HB.out.same hs1.2.2.size (hs1.2.1 _ (.inr rfl))
    have y1 := hb1.cell 1 rfl
    have FR := HF.out w1 hs1.1
    rw [show ((0 : Nat) : Int) = 0 from rfl] at FR
    have HFR := Lib.hid FR
    clear hs1 hb1 FR
    go_wp2_with fail
    refine HFR.out.mono ?_
    rintro e w2 ⟨rfl, hs2⟩
    have HS2 := Lib.hid hs2
    clear hs2
    go_wp2
    go_ret
    exact ⟨rfl, Step.from_below HAL.out HX.out HBS.out (HS1.out.trans HS2.out (fun q hq => hq)) (fun q hq => .inl hq)⟩
  by_cases e1 : r = 1
  · subst e1
    have hr : a % 5 = 1 := hr
    obtain ⟨T, hT⟩ : ∃ T, cloneP s id = T := ⟨_, rfl⟩
    obtain ⟨u, v, s'⟩ := T
    have hE : didP s 1 id k = s' := by show (cloneP s id).2.2 = s'; rw [hT]
    have HO := H0.out.land C (fun D N hL hN => C.clone b f w0 gp D N s id hL hok hl (by omega) hid)
    rw [hT] at HO
    have HO := Lib.hid HO
    have HF := Lib.hid (fun W (hb : BothP L b f (fun q => X q ∨ q = w.heap.size) W gp gr base (B + 1099511627776) s' s) => hb.ref C (fun D hr => refClone W gr D s hr hok hl hpk id hid))
    rw [hT] at HF
    rw [hE]
    clear hT hE
    go_enter Tryz.func21, Tryz.ntmps21
    go_wp2_with fail
    refine HO.out.mono ?_
    rintro e w1 ⟨rfl, hs1⟩
    have HS1 := Lib.hid hs1
    have hb1 := HB.out.same hs1.2.2.size (hs1.2.1 _ (.inr rfl))
    have y1 := hb1.cell 1 rfl
    have FR := HF.out w1 hs1.1
    have HFR := Lib.hid FR
    clear hs1 hb1 FR
    go_wp2_with fail
    refine HFR.out.mono ?_
    rintro e w2 ⟨rfl, hs2⟩
    have HS2 := Lib.hid hs2
    clear hs2
    go_wp2
    go_ret
    exact ⟨rfl, Step.from_below HAL.out HX.out HBS.out (HS1.out.trans HS2.out (fun q hq => hq)) (fun q hq => .inl hq)⟩
  by_cases e3 : r = 3
  · subst e3
    have hr : a % 5 = 3 := hr
    obtain ⟨T, hT⟩ : ∃ T, seekP s id k = T := ⟨_, rfl⟩
    obtain ⟨u, s'⟩ := T
    have hE : didP s 3 id k = s' := by show (seekP s id k).2 = s'; rw [hT]
    have hdr := (Below.refl w0.heap.size w0).drew
    have hd0 := H0.out.below C hdr
    have hbd := HB.out.later hdr
    obtain ⟨V, hV⟩ : ∃ V, w0.drew = V := ⟨_, rfl⟩
    rw [hV] at hdr hd0 hbd
    have HBV := Lib.hid hbd
    have HDR := Lib.hid hdr
    have HO := hd0.land C (fun D N hL hN => C.seek b f V gp D N s id k hL hok hl (by omega) hid hk)
    rw [hT] at HO
    have HO := Lib.hid HO
    have HF := Lib.hid (fun W (hb : BothP L b f (fun q => X q ∨ q = w.heap.size) W gp gr base (B + 1099511627776) s' s) => hb.ref C (fun D hr => refSeek W gr D s hr hok hl hpk id k hid hk))
    rw [hT] at HF
    rw [hE]
    clear hT hE hdr hd0 hbd
    go_enter Tryz.func21, Tryz.ntmps21
    go_wp2_with fail
    refine wp_region_held_drew (S := fun W => W.cell? ⟨w.heap.size, 1, none⟩ = some (.int .i64 id) ∧ W.cell? ⟨w.heap.size, 2, none⟩ = some (.int .i64 k)) (by kernel_rfl) (by exact ⟨x1, x2⟩) (fun hHeld => ?_)
    rw [hV] at hHeld ⊢
    clear hV x0 x1 x2
    refine wpAnyH_take (i := 0) (oi := ?tko1) (v := ?tkv1) ?tkh1 (by kernel_rfl) (by kernel_rfl) (by kernel_rfl) ?tkq1 ?tky1 hHeld ?tkr1
    case tkh1 => (simp only [List.getElem?_toArray, List.getElem?_cons_zero]; rfl)
    case tkq1 => exact fun _ _ _ h => h
    case tky1 => exact Or.inl ⟨by rfl, by intro wSw hSw; (try dsimp only at hSw); go_simp; try with_reducible rfl⟩
    try simp only [Act.put, List.setIfInBounds_toArray, List.set_cons_zero, List.set_cons_succ]
    refine wpAnyH_take (i := 1) (oi := ?tko2) (v := ?tkv2) ?tkh2 (by kernel_rfl) (by kernel_rfl) (by kernel_rfl) ?tkq2 ?tky2 hHeld ?tkr2
    case tkh2 => (simp only [List.getElem?_toArray, List.getElem?_cons_succ, List.getElem?_cons_zero]; rfl)
    case tkq2 => exact fun _ _ _ h => h
    case tky2 => exact Or.inl ⟨by rfl, by intro wSw hSw; (try dsimp only at hSw); go_simp; try with_reducible rfl⟩
    try simp only [Act.put, List.setIfInBounds_toArray, List.set_cons_zero, List.set_cons_succ]
    refine wpAnyH_take (i := 2) (oi := ?tko3) (v := ?tkv3) ?tkh3 (by kernel_rfl) (by kernel_rfl) (by kernel_rfl) ?tkq3 ?tky3 hHeld ?tkr3
    case tkh3 => (simp only [List.getElem?_toArray, List.getElem?_cons_succ, List.getElem?_cons_zero]; rfl)
    case tkq3 => exact fun _ _ _ h => h
    case tky3 => exact Or.inl ⟨by rfl, by intro wSw hSw; (try dsimp only at hSw); go_simp; try with_reducible rfl⟩
    try simp only [Act.put, List.setIfInBounds_toArray, List.set_cons_zero, List.set_cons_succ]
    refine wpAnyH_take (i := 3) (oi := ?tko4) (v := ?tkv4) ?tkh4 (by kernel_rfl) (by kernel_rfl) (by kernel_rfl) ?tkq4 ?tky4 hHeld ?tkr4
    case tkh4 => (simp only [List.getElem?_toArray, List.getElem?_cons_succ, List.getElem?_cons_zero]; rfl)
    case tkq4 => exact fun _ _ _ h => h
    case tky4 => exact Or.inl ⟨by rfl, by intro wSw hSw; (try dsimp only at hSw); go_simp; try with_reducible rfl⟩
    try simp only [Act.put, List.setIfInBounds_toArray, List.set_cons_zero, List.set_cons_succ]
    refine wpAnyH_take (i := 4) (oi := ?tko5) (v := ?tkv5) ?tkh5 (by kernel_rfl) (by kernel_rfl) (by kernel_rfl) ?tkq5 ?tky5 hHeld ?tkr5
    case tkh5 => (simp only [List.getElem?_toArray, List.getElem?_cons_succ, List.getElem?_cons_zero]; rfl)
    case tkq5 => exact fun _ _ _ h => h
    case tky5 => exact Or.inl ⟨by rfl, by intro wSw hSw; (try dsimp only at hSw); go_simp; try with_reducible rfl⟩
    try simp only [Act.put, List.setIfInBounds_toArray, List.set_cons_zero, List.set_cons_succ]
    refine wpAnyH_take (i := 6) (oi := ?tko6) (v := ?tkv6) ?tkh6 (by kernel_rfl) (by kernel_rfl) (by kernel_rfl) ?tkq6 ?tky6 hHeld ?tkr6
    case tkh6 => (simp only [List.getElem?_toArray, List.getElem?_cons_succ, List.getElem?_cons_zero]; rfl)
    case tkq6 => exact fun _ _ _ h => h
    case tky6 => exact Or.inl ⟨by rfl, by intro wSw hSw; (try dsimp only at hSw); go_simp; try with_reducible rfl⟩
    try simp only [Act.put, List.setIfInBounds_toArray, List.set_cons_zero, List.set_cons_succ]
    refine wpAnyH_take (i := 7) (oi := ?tko7) (v := ?tkv7) ?tkh7 (by kernel_rfl) (by kernel_rfl) (by kernel_rfl) ?tkq7 ?tky7 hHeld ?tkr7
    case tkh7 => (simp only [List.getElem?_toArray, List.getElem?_cons_succ, List.getElem?_cons_zero]; rfl)
    case tkq7 => exact fun _ _ _ h => h
    case tky7 => exact Or.inl ⟨by rfl, by intro wSw hSw; (try dsimp only at hSw); go_simp; try with_reducible rfl⟩
    try simp only [Act.put, List.setIfInBounds_toArray, List.set_cons_zero, List.set_cons_succ]
    refine wpAnyH_take (i := 8) (oi := ?tko8) (v := ?tkv8) ?tkh8 (by kernel_rfl) (by kernel_rfl) (by kernel_rfl) ?tkq8 ?tky8 hHeld ?tkr8
    case tkh8 => (simp only [List.getElem?_toArray, List.getElem?_cons_succ, List.getElem?_cons_zero]; rfl)
    case tkq8 => exact fun _ _ _ h => h
    case tky8 => exact Or.inl ⟨by rfl, by intro wSw hSw; (try dsimp only at hSw); go_simp; try with_reducible rfl⟩
    try simp only [Act.put, List.setIfInBounds_toArray, List.set_cons_zero, List.set_cons_succ]
    refine wpAnyH_take (i := 9) (oi := ?tko9) (v := ?tkv9) ?tkh9 (by kernel_rfl) (by kernel_rfl) (by kernel_rfl) ?tkq9 ?tky9 hHeld ?tkr9
    case tkh9 => (simp only [List.getElem?_toArray, List.getElem?_cons_succ, List.getElem?_cons_zero]; rfl)
    case tkq9 => exact fun _ _ _ h => h
    case tky9 => exact Or.inl ⟨by rfl, by intro wSw hSw; (try dsimp only at hSw); go_simp; try with_reducible rfl⟩
    try simp only [Act.put, List.setIfInBounds_toArray, List.set_cons_zero, List.set_cons_succ]
    refine wpAnyH_take (i := 10) (oi := ?tko10) (v := ?tkv10) ?tkh10 (by kernel_rfl) (by kernel_rfl) (by kernel_rfl) ?tkq10 ?tky10 hHeld ?tkr10
    case tkh10 => (simp only [List.getElem?_toArray, List.getElem?_cons_succ, List.getElem?_cons_zero]; rfl)
    case tkq10 => exact fun _ _ _ h => h
    case tky10 => exact Or.inl ⟨by rfl, by intro wSw hSw; (try dsimp only at hSw); go_simp; try with_reducible rfl⟩
    try simp only [Act.put, List.setIfInBounds_toArray, List.set_cons_zero, List.set_cons_succ]
    refine wpAnyH_ready (rs := [5]) (by kernel_rfl) (by simp) ?_
    refine AllReadyH.cons (o := ?tko11) ?tkh11 (fun Kt11 hKt11 => ?_) AllReadyH.nil
    case tkh11 => (simp only [List.getElem?_toArray, List.getElem?_cons_succ, List.getElem?_cons_zero]; rfl)
    go_simp
    (refine HO.out.mono ?_; rintro e w1 ⟨rfl, hs1⟩; have HS1 := Lib.hid hs1; have hb1 := HBV.out.same hs1.2.2.size (hs1.2.1 _ (.inr rfl)); have HFR := Lib.hid (HF.out w1 hs1.1); clear hs1)
    refine hKt11.out _ _ ?_ (fun hHt11 => ?_)
    · (exact ⟨hb1.cell 1 rfl, hb1.cell 2 rfl⟩)
    clear hKt11 Kt11 hHeld
    have hHeld := hHt11
    clear hHt11
    try simp only [Act.put, List.setIfInBounds_toArray, List.set_cons_zero, List.set_cons_succ]
    refine wpAnyH_ready (rs := [11]) (by kernel_rfl) (by simp) ?_
    refine AllReadyH.cons (o := ?tko12) ?tkh12 (fun Kt12 hKt12 => ?_) AllReadyH.nil
    case tkh12 => (simp only [List.getElem?_toArray, List.getElem?_cons_succ, List.getElem?_cons_zero]; rfl)
    go_simp
    (refine HFR.out.mono ?_; rintro e w2 ⟨rfl, hs2⟩; have HS2 := Lib.hid hs2; have hb2 := hb1.same hs2.2.2.size (hs2.2.1 _ (.inr rfl)); clear hs2)
    refine hKt12.out _ _ ?_ (fun hHt12 => ?_)
    · (exact ⟨hb2.cell 1 rfl, hb2.cell 2 rfl⟩)
    clear hKt12 Kt12 hHeld
    have hHeld := hHt12
    clear hHt12
    try simp only [Act.put, List.setIfInBounds_toArray, List.set_cons_zero, List.set_cons_succ]
    refine wpAnyH_take (i := 12) (oi := ?tko13) (v := ?tkv13) ?tkh13 (by kernel_rfl) (by kernel_rfl) (by kernel_rfl) ?tkq13 ?tky13 hHeld ?tkr13
    case tkh13 => (simp only [List.getElem?_toArray, List.getElem?_cons_succ, List.getElem?_cons_zero]; rfl)
    case tkq13 => exact fun _ _ _ h => h
    case tky13 => exact Or.inl ⟨by rfl, by intro wSw hSw; (try dsimp only at hSw); go_simp; try with_reducible rfl⟩
    try simp only [Act.put, List.setIfInBounds_toArray, List.set_cons_zero, List.set_cons_succ]
    refine wpAnyH_take (i := 13) (oi := ?tko14) (v := ?tkv14) ?tkh14 (by kernel_rfl) (by kernel_rfl) (by kernel_rfl) ?tkq14 ?tky14 hHeld ?tkr14
    case tkh14 => (simp only [List.getElem?_toArray, List.getElem?_cons_succ, List.getElem?_cons_zero]; rfl)
    case tkq14 => exact fun _ _ _ h => h
    case tky14 => exact Or.inl ⟨by rfl, by intro wSw hSw; (try dsimp only at hSw); go_simp; try with_reducible rfl⟩
    try simp only [Act.put, List.setIfInBounds_toArray, List.set_cons_zero, List.set_cons_succ]
    refine wpAnyH_done (by kernel_rfl) ?_ _
    clear hHeld hb1 hb2
    go_wp2_with fail
    go_ret
    exact ⟨rfl, Step.from_below HAL.out HX.out HBS.out (Step.from_below HDR.out (fun q hq => H0.out.lt q hq) H0.out.base (HS1.out.trans HS2.out (fun q hq => hq)) (fun q hq => hq)) (fun q hq => .inl hq)⟩
  by_cases e4 : r = 4
  · subst e4
    have hr : a % 5 = 4 := hr
    obtain ⟨T, hT⟩ : ∃ T, closeP s id = T := ⟨_, rfl⟩
    obtain ⟨u, s'⟩ := T
    have hE : didP s 4 id k = s' := by show (closeP s id).2 = s'; rw [hT]
    have hdr := (Below.refl w0.heap.size w0).drew
    have hd0 := H0.out.below C hdr
    have hbd := HB.out.later hdr
    obtain ⟨V, hV⟩ : ∃ V, w0.drew = V := ⟨_, rfl⟩
    rw [hV] at hdr hd0 hbd
    have HBV := Lib.hid hbd
    have HDR := Lib.hid hdr
    have HO := hd0.land C (fun D N hL hN => C.close b f V gp D N s id hL hok hl (by omega) hid)
    rw [hT] at HO
    have HO := Lib.hid HO
    have HF := Lib.hid (fun W (hb : BothP L b f (fun q => X q ∨ q = w.heap.size) W gp gr base (B + 1099511627776) s' s) => hb.ref C (fun D hr => refClose W gr D s hr id hid))
    rw [hT] at HF
    rw [hE]
    clear hT hE hdr hd0 hbd
    go_enter Tryz.func21, Tryz.ntmps21
    go_wp2_with fail
    refine wp_region_held_drew (S := fun W => W.cell? ⟨w.heap.size, 1, none⟩ = some (.int .i64 id) ∧ W.cell? ⟨w.heap.size, 2, none⟩ = some (.int .i64 k)) (by kernel_rfl) (by exact ⟨x1, x2⟩) (fun hHeld => ?_)
    rw [hV] at hHeld ⊢
    clear hV x0 x1 x2
    refine wpAnyH_take (i := 0) (oi := ?tko15) (v := ?tkv15) ?tkh15 (by kernel_rfl) (by kernel_rfl) (by kernel_rfl) ?tkq15 ?tky15 hHeld ?tkr15
    case tkh15 => (simp only [List.getElem?_toArray, List.getElem?_cons_zero]; rfl)
    case tkq15 => exact fun _ _ _ h => h
    case tky15 => exact Or.inl ⟨by rfl, by intro wSw hSw; (try dsimp only at hSw); go_simp; try with_reducible rfl⟩
    try simp only [Act.put, List.setIfInBounds_toArray, List.set_cons_zero, List.set_cons_succ]
    refine wpAnyH_take (i := 1) (oi := ?tko16) (v := ?tkv16) ?tkh16 (by kernel_rfl) (by kernel_rfl) (by kernel_rfl) ?tkq16 ?tky16 hHeld ?tkr16
    case tkh16 => (simp only [List.getElem?_toArray, List.getElem?_cons_succ, List.getElem?_cons_zero]; rfl)
    case tkq16 => exact fun _ _ _ h => h
    case tky16 => exact Or.inl ⟨by rfl, by intro wSw hSw; (try dsimp only at hSw); go_simp; try with_reducible rfl⟩
    try simp only [Act.put, List.setIfInBounds_toArray, List.set_cons_zero, List.set_cons_succ]
    refine wpAnyH_take (i := 2) (oi := ?tko17) (v := ?tkv17) ?tkh17 (by kernel_rfl) (by kernel_rfl) (by kernel_rfl) ?tkq17 ?tky17 hHeld ?tkr17
    case tkh17 => (simp only [List.getElem?_toArray, List.getElem?_cons_succ, List.getElem?_cons_zero]; rfl)
    case tkq17 => exact fun _ _ _ h => h
    case tky17 => exact Or.inl ⟨by rfl, by intro wSw hSw; (try dsimp only at hSw); go_simp; try with_reducible rfl⟩
    try simp only [Act.put, List.setIfInBounds_toArray, List.set_cons_zero, List.set_cons_succ]
    refine wpAnyH_take (i := 4) (oi := ?tko18) (v := ?tkv18) ?tkh18 (by kernel_rfl) (by kernel_rfl) (by kernel_rfl) ?tkq18 ?tky18 hHeld ?tkr18
    case tkh18 => (simp only [List.getElem?_toArray, List.getElem?_cons_succ, List.getElem?_cons_zero]; rfl)
    case tkq18 => exact fun _ _ _ h => h
    case tky18 => exact Or.inl ⟨by rfl, by intro wSw hSw; (try dsimp only at hSw); go_simp; try with_reducible rfl⟩
    try simp only [Act.put, List.setIfInBounds_toArray, List.set_cons_zero, List.set_cons_succ]
    refine wpAnyH_take (i := 5) (oi := ?tko19) (v := ?tkv19) ?tkh19 (by kernel_rfl) (by kernel_rfl) (by kernel_rfl) ?tkq19 ?tky19 hHeld ?tkr19
    case tkh19 => (simp only [List.getElem?_toArray, List.getElem?_cons_succ, List.getElem?_cons_zero]; rfl)
    case tkq19 => exact fun _ _ _ h => h
    case tky19 => exact Or.inl ⟨by rfl, by intro wSw hSw; (try dsimp only at hSw); go_simp; try with_reducible rfl⟩
    try simp only [Act.put, List.setIfInBounds_toArray, List.set_cons_zero, List.set_cons_succ]
    refine wpAnyH_take (i := 6) (oi := ?tko20) (v := ?tkv20) ?tkh20 (by kernel_rfl) (by kernel_rfl) (by kernel_rfl) ?tkq20 ?tky20 hHeld ?tkr20
    case tkh20 => (simp only [List.getElem?_toArray, List.getElem?_cons_succ, List.getElem?_cons_zero]; rfl)
    case tkq20 => exact fun _ _ _ h => h
    case tky20 => exact Or.inl ⟨by rfl, by intro wSw hSw; (try dsimp only at hSw); go_simp; try with_reducible rfl⟩
    try simp only [Act.put, List.setIfInBounds_toArray, List.set_cons_zero, List.set_cons_succ]
    refine wpAnyH_ready (rs := [3]) (by kernel_rfl) (by simp) ?_
    refine AllReadyH.cons (o := ?tko21) ?tkh21 (fun Kt21 hKt21 => ?_) AllReadyH.nil
    case tkh21 => (simp only [List.getElem?_toArray, List.getElem?_cons_succ, List.getElem?_cons_zero]; rfl)
    go_simp
    (refine HO.out.mono ?_; rintro e w1 ⟨rfl, hs1⟩; have HS1 := Lib.hid hs1; have hb1 := HBV.out.same hs1.2.2.size (hs1.2.1 _ (.inr rfl)); have HFR := Lib.hid (HF.out w1 hs1.1); clear hs1)
    refine hKt21.out _ _ ?_ (fun hHt21 => ?_)
    · (exact ⟨hb1.cell 1 rfl, hb1.cell 2 rfl⟩)
    clear hKt21 Kt21 hHeld
    have hHeld := hHt21
    clear hHt21
    try simp only [Act.put, List.setIfInBounds_toArray, List.set_cons_zero, List.set_cons_succ]
    refine wpAnyH_ready (rs := [7]) (by kernel_rfl) (by simp) ?_
    refine AllReadyH.cons (o := ?tko22) ?tkh22 (fun Kt22 hKt22 => ?_) AllReadyH.nil
    case tkh22 => (simp only [List.getElem?_toArray, List.getElem?_cons_succ, List.getElem?_cons_zero]; rfl)
    go_simp
    (refine HFR.out.mono ?_; rintro e w2 ⟨rfl, hs2⟩; have HS2 := Lib.hid hs2; have hb2 := hb1.same hs2.2.2.size (hs2.2.1 _ (.inr rfl)); clear hs2)
    refine hKt22.out _ _ ?_ (fun hHt22 => ?_)
    · (exact ⟨hb2.cell 1 rfl, hb2.cell 2 rfl⟩)
    clear hKt22 Kt22 hHeld
    have hHeld := hHt22
    clear hHt22
    try simp only [Act.put, List.setIfInBounds_toArray, List.set_cons_zero, List.set_cons_succ]
    refine wpAnyH_take (i := 8) (oi := ?tko23) (v := ?tkv23) ?tkh23 (by kernel_rfl) (by kernel_rfl) (by kernel_rfl) ?tkq23 ?tky23 hHeld ?tkr23
    case tkh23 => (simp only [List.getElem?_toArray, List.getElem?_cons_succ, List.getElem?_cons_zero]; rfl)
    case tkq23 => exact fun _ _ _ h => h
    case tky23 => exact Or.inl ⟨by rfl, by intro wSw hSw; (try dsimp only at hSw); go_simp; try with_reducible rfl⟩
    try simp only [Act.put, List.setIfInBounds_toArray, List.set_cons_zero, List.set_cons_succ]
    refine wpAnyH_take (i := 9) (oi := ?tko24) (v := ?tkv24) ?tkh24 (by kernel_rfl) (by kernel_rfl) (by kernel_rfl) ?tkq24 ?tky24 hHeld ?tkr24
    case tkh24 => (simp only [List.getElem?_toArray, List.getElem?_cons_succ, List.getElem?_cons_zero]; rfl)
    case tkq24 => exact fun _ _ _ h => h
    case tky24 => exact Or.inl ⟨by rfl, by intro wSw hSw; (try dsimp only at hSw); go_simp; try with_reducible rfl⟩
    try simp only [Act.put, List.setIfInBounds_toArray, List.set_cons_zero, List.set_cons_succ]
    refine wpAnyH_done (by kernel_rfl) ?_ _
    clear hHeld hb1 hb2
    go_wp2_with fail
    go_ret
    exact ⟨rfl, Step.from_below HAL.out HX.out HBS.out (Step.from_below HDR.out (fun q hq => H0.out.lt q hq) H0.out.base (HS1.out.trans HS2.out (fun q hq => hq)) (fun q hq => hq)) (fun q hq => .inl hq)⟩
  obtain rfl : r = 2 := by omega
  have hr : a % 5 = 2 := hr
  obtain ⟨T, hT⟩ : ∃ T, nextP s id = T := ⟨_, rfl⟩
  obtain ⟨x, v, s'⟩ := T
  have hE : didP s 2 id k = s' := by show (nextP s id).2.2 = s'; rw [hT]
  have HO := H0.out.nextL C hok hl (by omega) id hid
  rw [hT] at HO
  have HO := Lib.hid HO
  have HF := Lib.hid (fun Y W (hb : BothP L b f Y W gp gr base (B + 1099511627776) s' s) => hb.ref C (R := fun e w' => ∃ K c, e = .returned (.tuple #[.agg #[.int .u64 (nextP s id).1.time, .slice K (nextP s id).1.ids.length c], .int .i64 ((nextP s id).2.1 : Nat)]) ∧ EvOk w' (nextP s id).1 K c) (fun D hr => (refNext W gr D s hr hok hl hpk id hid).mono (fun e w' h => by obtain ⟨K, c, h1, h2, h3⟩ := h; exact ⟨⟨K, c, h1, h2⟩, h3⟩)))
  rw [hT] at HF
  rw [hE]
  clear hT hE e0 e1 e3 e4
  go_enter Tryz.func21, Tryz.ntmps21
  go_wp2_with fail
  refine HO.out.mono ?_
  rintro e w1 ⟨K, kc, rfl, hev1, hb1, hk1, hB1⟩
  have hv1 : v = v := rfl
  have hal1 := (Below.refl _ w1).alloc (Nat.le_refl _) (.cells #[.int .u64 x.time, .slice K x.ids.length kc] 38)
  have hb2 := hb1.box C (.cells #[.int .u64 x.time, .slice K x.ids.length kc] 38)
  have hx2 := Blk.new w1 #[.int .u64 x.time, .slice K x.ids.length kc] 38 [.int .u64 x.time, .slice K x.ids.length kc] rfl
  have hev2 := hev1.below hal1
  have ha1 := HB.out.same hB1.size (hk1 _ (.inr rfl))
  have ha2 := ha1.later hal1
  have HK2 := Lib.hid (show ∀ q, X q → (w1.alloc (.cells #[.int .u64 x.time, .slice K x.ids.length kc] 38)).heap[q]? = w0.heap[q]? from fun q hq => (hal1.block q (hb1.lt q (.inl (.inl hq)))).trans (hk1 q (.inl hq)))
  have HBW2 := Lib.hid (hB1.trans (hal1.mono hb1.base))
  have hKlt : ∀ q, K = some q → 0 < x.ids.length → q.block < w1.heap.size := fun q e h0 => rd_lt hev1.2.1 q e h0
  obtain ⟨w2, hw2⟩ : ∃ w2, w1.alloc (.cells #[.int .u64 x.time, .slice K x.ids.length kc] 38) = w2 := ⟨_, rfl⟩
  obtain ⟨g1, hg1⟩ : ∃ g1, w1.heap.size = g1 := ⟨_, rfl⟩
  rw [hw2] at hb2 hx2 hev2 ha2 HK2 HBW2
  rw [hg1] at hb2 hx2 hKlt
  have z1 := ha2.cell 1 rfl
  have HX2 := Lib.hid hx2
  have HV2 := Lib.hid hev2
  have HB2 := Lib.hid hb2
  have HKL := Lib.hid hKlt
  have HFR := Lib.hid (HF.out _ w2 hb2)
  clear hal1 hb1 hb2 hx2 hev1 hev2 ha1 ha2 hk1 hB1 hKlt HO HF x0 x1 x2
  go_wp2_with fail
  clear hw2 hg1 w1
  refine HFR.out.mono ?_
  rintro e w3 ⟨⟨K2, kc2, rfl, hev3⟩, hs3⟩
  have hal3 := (Below.refl _ w3).alloc (Nat.le_refl _) (.cells #[.int .u64 x.time, .slice K2 x.ids.length kc2] 38)
  have hx3 := HX2.out.same hs3.2.2.size (hs3.2.1 _ (.inr rfl))
  have hx4 := hx3.later hal3
  have hy4 := Blk.new w3 #[.int .u64 x.time, .slice K2 x.ids.length kc2] 38 [.int .u64 x.time, .slice K2 x.ids.length kc2] rfl
  have hv3 := evok_kept HV2.out (w' := w3) (fun q e h0 => hs3.2.1 _ (.inl (.inr ⟨HKL.out q e h0, q, e, rfl⟩)))
  have hv4 := hv3.below hal3
  have hv5 := hev3.below hal3
  have HS4 := Lib.hid (hs3.below C hal3)
  obtain ⟨w4, hw4⟩ : ∃ w4, w3.alloc (.cells #[.int .u64 x.time, .slice K2 x.ids.length kc2] 38) = w4 := ⟨_, rfl⟩
  obtain ⟨g3, hg3⟩ : ∃ g3, w3.heap.size = g3 := ⟨_, rfl⟩
  rw [hw4] at hx4 hy4 hv4 hv5 HS4
  rw [hg3] at hy4
  have a0 := hx4.cell 0 rfl
  have a1 := hx4.cell 1 rfl
  have b0 := hy4.cell 0 rfl
  have b1 := hy4.cell 1 rfl
  have FS := refSameEvent x x K K2 kc kc2 w4 hv4 hv5
  rw [show decide (x = x) = true from decide_eq_true rfl] at FS
  have HFS := Lib.hid FS
  clear hal3 hx3 hx4 hy4 hv3 hv4 hv5 hev3 hs3 FS HFR
  go_wp2_with fail
  clear hw4 hg3
  refine HFS.out.mono ?_
  rintro e w5 ⟨rfl, hB5⟩
  have HS5 := Lib.hid (HS4.out.below C hB5)
  clear hB5
  go_wp2_with fail
  go_ret
  refine ⟨rfl, HS5.out.1.less (fun q hq => .inl (.inl (.inl hq))) (Nat.le_refl _), fun q hq => ?_, (HAL.out.mono HBS.out).trans (HBW2.out.trans HS5.out.2.2)⟩
  exact (HS5.out.2.1 q (.inl (.inl (.inl hq)))).trans ((HK2.out q hq).trans (HAL.out.block q (HX.out q hq)))
end Go.Proofs.YtimbbfneaaglbaaGreat.Heads
