/-
  The walks of the landed package trace: Names, Ids, May, Holds, end. By an AI agent.
  slices.Contains over ids, and the walk of the reference's Holds. By an AI agent.
  The walks of the landed Holds and end. By an AI agent.
  The landed prev, next, both, prop (stage 15). By an AI agent.
-/
import Derived.Test.YtdbgaccnejffpaaGreatGSatTells23
import Derived.Test.YtdbgaccnejffpaaGreatGSatTells1
import Derived.Test.YtdbgaccnejffpaaGreatGSatTells22
namespace Go.Proofs.YtdbgaccnejffpaaGreat.Trace
open Go.RowKit Go.Proofs.YtdbgaccnejffpaaGreat.Ints Go.Proofs.YtdbgaccnejffpaaGreat.Mem
set_option maxHeartbeats 4000000 in
set_option maxRecDepth 100000 in
theorem landNames (A : Option Addr) (n c : Nat) (l : List (List UInt8)) (w : World) (hl : l.length = n) (hnc : n ≤ c) (h : Strs w A l) (hs : ∀ s ∈ l, s.length ≤ maxLen) :
  Calls Tryz.prog 31 #[.slice A n c] w fun e w' => e = .returned (.bool (namesOk l)) ∧ w' = w := by
 by_cases h64 : n ≤ 64
 ·have hg : decide ((n : Int) > 64) = false := by simp; omega
  have hni : (n : Int) ≤ 64 := by omega
  have HL := Lib.hid hl
  have HD := Lib.hid h
  have HS := Lib.hid hs
  clear hl h hs
  go_enter Tryz.func31, Tryz.ntmps31
  go_wp2
  go_loop [10] (fun i => ∃ k : Nat, k ≤ n ∧ i = .int .i64 k ∧ Hid (∀ j, j < k → NameGood l j)) (fun i => n - (intOf i).toNat)
  case atStart => exact ⟨0, Nat.zero_le _, rfl, fun j hj => absurd hj (by omega)⟩
  case round =>
   obtain ⟨k, hk, rfl, HG⟩ := hrel
   by_cases hkn : k < n
   ·have hkn' : (k : Int) < (n : Int) := by omega
    have hkl : k < l.length := by have := HL.out; omega
    obtain ⟨b, off, e, hc⟩ := HD.out (by omega)
    have x0 := strs_at hc hkl
    obtain ⟨s, hse⟩ : ∃ s : ByteArray, s = ⟨(l.getD k []).toArray⟩ := ⟨_, rfl⟩
    have hsd : s.data.toList = l.getD k [] := by rw [hse]
    rw [← hse] at x0
    have hsz : s.size ≤ maxLen := by
     have h1 := HS.out (l.getD k []) (by simp [List.getD, hkl])
     rw [← hsd, Array.length_toList] at h1
     exact h1
    have hN := fun W => Lex.landName s W hsz
    have hC := fun W (hb : W = w) => containsStr A k c (l.take k) s W (by rw [List.length_take]; omega) (by omega) (hb ▸ HD.out.take k)
    rw [hsd] at hN hC
    subst e
    have HKL := Lib.hid hkl
    clear hse hsd hsz hc hkl
    rcases hnm : Lex.nameS (l.getD k [])
    ·have HR := Lib.hid (names_no HKL.out (fun e => by rw [e.1] at hnm; cases hnm))
     rw [hnm] at hN
     have HN := Lib.hid hN
     clear hN hC hnm
     go_wp2_with (go_at_call 66; refine (HN.out _).mono ?_; rintro e w' ⟨rfl, rfl⟩)
     go_ret
     exact ⟨by rw [HR.out]; rfl, rfl⟩
    ·rw [hnm] at hN
     have HN := Lib.hid hN
     by_cases hin : l.getD k [] ∈ l.take k
     ·have HR := Lib.hid (names_no HKL.out (fun e => e.2 hin))
      rw [decide_eq_true hin] at hC
      have HC := Lib.hid hC
      clear hN hC hnm hin
      go_wp2_with (first
       | (go_at_call 66; refine (HN.out _).mono ?_; rintro e w' ⟨rfl, rfl⟩)
       | (go_at_call 56; refine (HC.out _ rfl).mono ?_; rintro e w' ⟨rfl, rfl⟩))
      go_ret
      exact ⟨by rw [HR.out]; rfl, rfl⟩
     ·have HZ := Lib.hid (good_more HG.out ⟨hnm, hin⟩)
      rw [decide_eq_false hin] at hC
      have HC := Lib.hid hC
      clear hN hC hnm hin
      go_wp2_with (first
       | (go_at_call 66; refine (HN.out _).mono ?_; rintro e w' ⟨rfl, rfl⟩)
       | (go_at_call 56; refine (HC.out _ rfl).mono ?_; rintro e w' ⟨rfl, rfl⟩))
      go_round
      case rel => exact ⟨k + 1, by omega, by go_num, HZ⟩
      case measure => simp [intOf]; omega
   ·have hge : decide ((k : Int) < (n : Int)) = false := by simp; omega
    have HR := Lib.hid (names_yes (l := l) (by have := HL.out; omega) (fun j hj => HG.out j (by have := HL.out; omega)))
    go_wp2
    go_ret
    exact ⟨by rw [HR.out]; rfl, rfl⟩
 ·have hg : decide ((n : Int) > 64) = true := by simp; omega
  have HR := Lib.hid (names_long (l := l) (by omega))
  clear hl h hs
  go_enter Tryz.func31, Tryz.ntmps31
  go_wp2
  go_ret
  exact ⟨by rw [HR.out]; rfl, rfl⟩
def lastId (l : List Int) (k : Nat) : Int := if k = 0 then -1 else l.getD (k - 1) 0
theorem id_good {l : List Int} {p : Int} {k : Nat} (hG : ∀ j, j < k → IdGood l p j) : IdGood l p k ↔ lastId l k < l.getD k 0 ∧ l.getD k 0 < p := by
 have hpos : ∀ j, j < k → 0 ≤ l.getD j 0 := fun j hj => (hG j hj).1
 unfold lastId IdGood
 by_cases h0 : k = 0
 ·rw [if_pos h0]
  constructor
  ·rintro ⟨h1, h2, -⟩; exact ⟨by omega, h2⟩
  ·rintro ⟨h1, h2⟩; exact ⟨by omega, h2, fun h => absurd h (by omega)⟩
 ·rw [if_neg h0]
  have := hpos (k - 1) (by omega)
  constructor
  ·rintro ⟨h1, h2, h3⟩; exact ⟨h3 (by omega), h2⟩
  ·rintro ⟨h1, h2⟩; exact ⟨by omega, h2, fun _ => h1⟩
theorem lastId_next (l : List Int) (k : Nat) : lastId l (k + 1) = l.getD k 0 := by
 unfold lastId
 rw [if_neg (by omega), Nat.add_sub_cancel]
set_option maxHeartbeats 4000000 in
set_option maxRecDepth 100000 in
theorem landIds (A : Option Addr) (n c : Nat) (p : Int) (l : List Int) (w : World) (h : Rd .i64 w A n l) (hm : n ≤ maxLen) (hp : small64 p) :
  Calls Tryz.prog 32 #[.slice A n c, .int .i64 p] w fun e w' => e = .returned (.bool (idsOk l p)) ∧ w' = w := by
 have hni : (n : Int) ≤ 9223372036854775807 := by have : maxLen = 9223372036854775807 := rfl; omega
 obtain ⟨hp1, hp2⟩ := hp
 have HD := Lib.hid h
 have HL := Lib.hid h.len
 clear h hm
 go_enter Tryz.func32, Tryz.ntmps32
 go_wp2
 go_loop [5, 10] (fun a i => ∃ (k : Nat) (y : Int), k ≤ n ∧ i = .int .i64 k ∧ a = .int .i64 y ∧ -1 ≤ y ∧ y ≤ 9223372036854775807 ∧ Hid (y = lastId l k ∧ ∀ j, j < k → IdGood l p j)) (fun _ i => n - (intOf i).toNat)
 case atStart => exact ⟨0, -1, Nat.zero_le _, rfl, rfl, by decide, by decide, rfl, fun j hj => absurd hj (by omega)⟩
 case round =>
  obtain ⟨k, y, hk, rfl, rfl, hy1, hy2, HG⟩ := hrel
  by_cases hkn : k < n
  ·have hkn' : (k : Int) < (n : Int) := by omega
   obtain ⟨b, off, e, hc⟩ := HD.out.cell (by omega)
   have x0 := hc k hkn
   have hw := wf_i64 (HD.out.wf k hkn)
   have hgk : l.getD k 0 = l[k]?.getD 0 := by simp [List.getD]
   have hlen : k < l.length := by have := HL.out; omega
   obtain ⟨x, hx⟩ : ∃ x, l[k]?.getD 0 = x := ⟨_, rfl⟩
   rw [hx] at x0 hw hgk
   obtain ⟨hw1, hw2⟩ := hw
   subst e
   have hiff := id_good HG.out.2
   rw [hgk, ← HG.out.1] at hiff
   by_cases h1 : x ≤ y
   ·have HR := Lib.hid (ids_no (p := p) hlen (fun e => by have := (hiff.1 e).1; omega))
    clear hgk hlen hx hc hiff
    go_wp2
    go_ret
    exact ⟨by rw [HR.out]; rfl, rfl⟩
   ·have h1' : decide (x ≤ y) = false := decide_eq_false h1
    by_cases h2 : p ≤ x
    ·have h2' : decide (x ≥ p) = true := decide_eq_true h2
     have HR := Lib.hid (ids_no (p := p) hlen (fun e => by have := (hiff.1 e).2; omega))
     clear hgk hlen hx hc hiff
     go_wp2
     go_ret
     exact ⟨by rw [HR.out]; rfl, rfl⟩
    ·have h2' : decide (x ≥ p) = false := decide_eq_false h2
     have HZ := Lib.hid (good_more HG.out.2 (p := IdGood l p) (k := k) (hiff.2 ⟨by omega, by omega⟩))
     have HY := Lib.hid (show x = lastId l (k + 1) by rw [lastId_next, hgk])
     have hx1 : -1 ≤ x := by omega
     clear hgk hlen hx hc hiff
     go_wp2
     go_round
     case rel => exact ⟨k + 1, x, by omega, by go_num, rfl, hx1, hw2, HY.out, HZ.out⟩
     case measure => simp [intOf]; omega
  ·have hge : decide ((k : Int) < (n : Int)) = false := by simp; omega
   have HR := Lib.hid (ids_yes (l := l) (p := p) (fun j hj => HG.out.2 j (by have := HL.out; omega)))
   go_wp2
   go_ret
   exact ⟨by rw [HR.out]; rfl, rfl⟩
def lastTm (l : List Ev) (k : Nat) : Int := if k = 0 then 0 else (l.getD (k - 1) noEv).time
theorem ev_good {l : List Ev} {p : Int} {k : Nat} (ht : 0 ≤ (l.getD k noEv).time) : EvGood l p k ↔ idsOk (l.getD k noEv).ids p = true ∧ lastTm l k ≤ (l.getD k noEv).time := by
 unfold lastTm EvGood
 by_cases h0 : k = 0
 ·rw [if_pos h0]
  exact ⟨fun e => ⟨e.1, ht⟩, fun e => ⟨e.1, fun h => absurd h (by omega)⟩⟩
 ·rw [if_neg h0]
  exact ⟨fun e => ⟨e.1, e.2 (by omega)⟩, fun e => ⟨e.1, fun _ => e.2⟩⟩
theorem lastTm_next (l : List Ev) (k : Nat) : lastTm l (k + 1) = (l.getD k noEv).time := by
 unfold lastTm
 rw [if_neg (by omega), Nat.add_sub_cancel]
set_option maxHeartbeats 4000000 in
set_option maxRecDepth 100000 in
theorem landMay (NA : Option Addr) (nn nc : Nat) (EA : Option Addr) (ne ec : Nat) (t : Tr) (w : World) (h : TrOk Any w NA nn nc EA ne ec t) :
  Calls Tryz.prog 19 #[.agg #[.slice NA nn nc, .slice EA ne ec]] w fun e w' => e = .returned (.bool (mayT t)) ∧ Below w.heap.size w w' := by
 have hm : maxLen = 9223372036854775807 := rfl
 have hni : (nn : Int) ≤ 9223372036854775807 := by have := h.ncap; omega
 have hei : (ne : Int) ≤ 9223372036854775807 := by have := h.ecap; omega
 have HD := Lib.hid h
 have hN := fun W (hb : Below w.heap.size w W) => landNames NA nn nc t.names W h.nlen h.ncap.1 (h.names.below hb) h.sizes
 obtain ⟨ns, hns⟩ : ∃ b, namesOk t.names = b := ⟨_, rfl⟩
 rw [hns] at hN
 have HN := Lib.hid hN
 cases ns
 ·have HR := Lib.hid (show mayT t = false by unfold mayT; rw [hns]; rfl)
  clear h hN hns hm
  go_enter Tryz.func19, Tryz.ntmps19
  go_wp2_with (go_at_call 31; refine (HN.out _ ((Below.refl _ _).alloc (Nat.le_refl _) _)).mono ?_; rintro e w' ⟨rfl, rfl⟩)
  go_ret
  exact ⟨by rw [HR.out]; rfl, (Below.refl _ _).alloc (Nat.le_refl _) _⟩
 ·have HE := Lib.hid (show mayT t = evsOk t.events (nn : Int) by unfold mayT; rw [hns, h.nlen]; rfl)
  clear h hN hns hm
  go_enter Tryz.func19, Tryz.ntmps19
  go_wp2_with (go_at_call 31; refine (HN.out _ ((Below.refl _ _).alloc (Nat.le_refl _) _)).mono ?_; rintro e w' ⟨rfl, rfl⟩)
  go_loopw [3, 13] (fun a i wr => ∃ (k : Nat) (y : Int), k ≤ ne ∧ i = .int .i64 k ∧ a = .int .u64 y ∧ 0 ≤ y ∧ y ≤ 18446744073709551615 ∧ Hid (y = lastTm t.events k ∧ ∀ j, j < k → EvGood t.events (nn : Int) j) ∧ Below (w.heap.size + 1) (boxT w NA nn nc EA ne ec) wr) (fun _ i _ => ne - (intOf i).toNat)
  case atStart => exact ⟨0, 0, Nat.zero_le _, rfl, rfl, by decide, by decide, ⟨rfl, fun j hj => absurd hj (by omega)⟩, Below.refl _ _⟩
  case round =>
   obtain ⟨k, y, hk, rfl, rfl, hy1, hy2, HG, hB⟩ := hrel
   obtain ⟨t0, t1⟩ := boxT_at hB
   have t0' : ∀ o : Obj, (wr.alloc o).cell? ⟨w.heap.size, 0, none⟩ = some (.slice NA nn nc) := fun o => Lib.cell?_alloc_marked o t0
   have t1' : ∀ o : Obj, (wr.alloc o).cell? ⟨w.heap.size, 1, none⟩ = some (.slice EA ne ec) := fun o => Lib.cell?_alloc_marked o t1
   have HB := Lib.hid hB
   have HBS : w.heap.size + 1 ≤ wr.heap.size := by have := hB.size; simpa [boxT] using this
   clear hB
   by_cases hkn : k < ne
   ·have hkn' : (k : Int) < (ne : Int) := by omega
    have hk0 : (0 : Int) ≤ (k : Int) := by omega
    have HW := HD.out.below (boxT_below HB.out)
    have hlen : k < t.events.length := by rw [HW.elen]; exact hkn
    obtain ⟨b, off, e, hc⟩ := HW.evs (by omega)
    obtain ⟨x0, hw, K, c, x1, hK, hKc, hcK, -, -⟩ := hc k _ (List.getElem?_eq_getElem hlen)
    have hg : t.events.getD k noEv = t.events[k] := by simp [List.getD, hlen]
    rw [← hg] at x0 hw x1 hK hKc
    have hiff := ev_good (l := t.events) (p := (nn : Int)) (k := k) (wf_u64 hw).1
    rw [← HG.out.1] at hiff
    have hnext := lastTm_next t.events k
    obtain ⟨ev, hev⟩ : ∃ ev, t.events.getD k noEv = ev := ⟨_, rfl⟩
    rw [hev] at x0 hw x1 hK hKc hiff hnext
    rw [Nat.mul_comm 2 k] at x0 x1
    have hI := fun W (hb : Below wr.heap.size wr W) => landIds K ev.ids.length c (nn : Int) ev.ids W (hK.below hb) (Nat.le_trans hKc hcK) ⟨by omega, hni⟩
    obtain ⟨q, hq⟩ : ∃ q, ev.ids.length = q := ⟨_, rfl⟩
    rw [hq] at hI x1
    obtain ⟨tm, htm⟩ : ∃ tm, ev.time = tm := ⟨_, rfl⟩
    rw [htm] at x0 hw hiff hnext
    have HLEN := Lib.hid hlen
    subst e
    obtain ⟨hw1, hw2⟩ := wf_u64 hw
    rcases hid : idsOk ev.ids (nn : Int)
    ·have HR := Lib.hid (evs_no (p := (nn : Int)) hlen (fun e => by have := (hiff.1 e).1; rw [hid] at this; cases this))
     rw [hid] at hI
     have HI := Lib.hid hI
     clear hI hid hc hg hlen hev hw hK hKc hcK HW hq htm hiff hnext
     go_wp2_with (go_at_call 32; refine (HI.out _ ((Below.refl _ _).alloc (Nat.le_refl _) _)).mono ?_; rintro e w' ⟨rfl, rfl⟩)
     go_ret
     exact ⟨by rw [HE.out, HR.out]; rfl, ((boxT_below HB.out).alloc (boxT_below HB.out).size _)⟩
    ·rw [hid] at hI
     have HI := Lib.hid hI
     by_cases h3 : tm < y
     ·have HR := Lib.hid (evs_no (p := (nn : Int)) hlen (fun e => by have := (hiff.1 e).2; omega))
      clear hI hid hc hg hlen hev hw hK hKc hcK HW hq htm hiff hnext
      go_wp2_with (go_at_call 32; refine (HI.out _ ((Below.refl _ _).alloc (Nat.le_refl _) _)).mono ?_; rintro e w' ⟨rfl, rfl⟩)
      go_ret
      exact ⟨by rw [HE.out, HR.out]; rfl, ((boxT_below HB.out).alloc (boxT_below HB.out).size _)⟩
     ·have h3' : decide (tm < y) = false := decide_eq_false h3
      have HZ := Lib.hid (And.intro hnext.symm (good_more HG.out.2 (p := EvGood t.events (nn : Int)) (k := k) (hiff.2 ⟨hid, by omega⟩)))
      clear hI hid hc hg hlen hev hw hK hKc hcK HW hq htm hiff hnext
      go_wp2_with (go_at_call 32; refine (HI.out _ ((Below.refl _ _).alloc (Nat.le_refl _) _)).mono ?_; rintro e w' ⟨rfl, rfl⟩)
      go_roundw
      case rel => exact ⟨k + 1, tm, by omega, by go_num, rfl, hw1, hw2, HZ, HB.out.alloc HBS _⟩
      case measure => simp [intOf]; omega
   ·have hge : decide ((k : Int) < (ne : Int)) = false := by simp; omega
    have HR := Lib.hid (evs_yes (l := t.events) (p := (nn : Int)) (fun j hj => HG.out.2 j (by have := HD.out.elen; omega)))
    go_wp2
    go_ret
    exact ⟨by rw [HE.out, HR.out]; rfl, boxT_below HB.out⟩
theorem may_neg {t : Tr} (h : mayT t = true) {k : Nat} (hk : k < t.events.length) : (-1 : Int) ∉ (t.events.getD k noEv).ids := fun hm => by
 have h1 := ((evsOk_iff _ _).1 ((mayT_iff t).1 h).2 k hk).1
 obtain ⟨j, hj, e⟩ := List.getElem_of_mem hm
 have h2 := ((idsOk_iff _ _).1 h1 j hj).1
 rw [List.getD, List.getElem?_eq_getElem hj, Option.getD_some, e] at h2
 omega
theorem holds_idx {t : Tr} (h : mayT t = true) {k : Nat} (hk : k < t.events.length) (s : List UInt8) : holdsT t (k : Int) s = decide (idxL t.names s ∈ (t.events.getD k noEv).ids) := by
 unfold holdsT idxL
 rw [h, decide_eq_true (show (0 : Int) ≤ (k : Int) ∧ (k : Int) < (t.events.length : Int) by omega), Int.toNat_natCast]
 by_cases hs : s ∈ t.names
 ·rw [decide_eq_true hs, if_pos hs]
  rfl
 ·rw [decide_eq_false hs, if_neg hs, decide_eq_false (may_neg h hk)]
  rfl
end Go.Proofs.YtdbgaccnejffpaaGreat.Trace

namespace Go.Proofs.YtdbgaccnejffpaaGreat.Trace
open Go.RowKit Go.Proofs.YtdbgaccnejffpaaGreat.Ints Go.Proofs.YtdbgaccnejffpaaGreat.Mem
theorem containsInt (A : Option Addr) (n c : Nat) (l : List Int) (x : Int) (w : World) (hn : n ≤ maxLen) (h : Rd .i64 w A n l) :
  Calls Tryz.prog 73 #[.slice A n c, .int .i64 x] w fun e w' => e = .returned (.bool (decide (x ∈ l))) ∧ w' = w := by
 by_cases h0 : n = 0
 ·subst h0
  have : l = [] := List.eq_nil_of_length_eq_zero h.len
  subst this
  exact Tryz.slices_Contains_int_empty A c x w
 ·obtain ⟨b, off, rfl, hc⟩ := h.cell (by omega)
  refine (Tryz.slices_Contains_int b off n c l x w (by rw [h.len]; exact Nat.le_refl _) hn (fun j hj => by have := hc j (by rw [← h.len]; exact hj); simpa [List.getD] using this)).mono fun e w' ⟨he, hw⟩ => ⟨?_, hw⟩
  rw [he, List.take_of_length_le (by rw [h.len]; exact Nat.le_refl _)]
  congr 2
  rw [Bool.eq_iff_iff, decide_eq_true_iff, List.contains_iff_mem]
set_option maxHeartbeats 4000000 in
set_option maxRecDepth 100000 in
theorem refHolds (NA : Option Addr) (nn nc : Nat) (EA : Option Addr) (ne ec : Nat) (t : Tr) (i : Int) (s : ByteArray) (w : World) (h : TrOk Any w NA nn nc EA ne ec t) (hi : small64 i) :
  Calls Tryz.prog 104 #[.agg #[.slice NA nn nc, .slice EA ne ec], .int .i64 i, .string s] w fun e w' => e = .returned (.bool (holdsT t i s.data.toList)) ∧ Below w.heap.size w w' := by
 have hm : maxLen = 9223372036854775807 := rfl
 have hni : (nn : Int) ≤ 9223372036854775807 := by have := h.ncap; omega
 have hei : (ne : Int) ≤ 9223372036854775807 := by have := h.ecap; omega
 obtain ⟨hi1, hi2⟩ := hi
 have hM := fun W (hb : Below w.heap.size w W) => refMay NA nn nc EA ne ec t W (h.below hb)
 rcases hmay : mayT t
 ·have HR := Lib.hid (show holdsT t i s.data.toList = false by unfold holdsT; rw [hmay]; rfl)
  rw [hmay] at hM
  have HM := Lib.hid hM
  clear h hM hmay hm
  go_enter Tryz.func104, Tryz.ntmps104
  go_wp2_with (go_at_call 16; refine (HM.out _ ((Below.refl _ _).alloc (Nat.le_refl _) _)).mono ?_; rintro e w1 ⟨rfl, hb1⟩)
  go_ret
  exact ⟨by rw [HR.out]; rfl, boxT_below (boxT_call hb1)⟩
 ·have HE := Lib.hid (show holdsT t i s.data.toList = (decide (0 ≤ i ∧ i < t.events.length) && (decide (s.data.toList ∈ t.names) && decide (((t.names.idxOf s.data.toList : Nat) : Int) ∈ (t.events.getD i.toNat noEv).ids))) by unfold holdsT; rw [hmay]; rfl)
  rw [hmay] at hM
  have HM := Lib.hid hM
  by_cases hlo : i < 0
  ·have HR := Lib.hid (show holdsT t i s.data.toList = false by rw [HE.out, decide_eq_false (by omega)]; rfl)
   clear h hM hmay hm
   go_enter Tryz.func104, Tryz.ntmps104
   go_wp2_with (go_at_call 16; refine (HM.out _ ((Below.refl _ _).alloc (Nat.le_refl _) _)).mono ?_; rintro e w1 ⟨rfl, hb1⟩)
   go_ret
   exact ⟨by rw [HR.out]; rfl, boxT_below (boxT_call hb1)⟩
  ·have hlo' : decide (i < 0) = false := decide_eq_false hlo
   by_cases hhi : (ne : Int) ≤ i
   ·have HR := Lib.hid (show holdsT t i s.data.toList = false by rw [HE.out, decide_eq_false (by rw [h.elen]; omega)]; rfl)
    have hhi' : decide (i ≥ (ne : Int)) = true := decide_eq_true hhi
    clear h hM hmay hm
    go_enter Tryz.func104, Tryz.ntmps104
    go_wp2_with (go_at_call 16; refine (HM.out _ ((Below.refl _ _).alloc (Nat.le_refl _) _)).mono ?_; rintro e w1 ⟨rfl, hb1⟩; obtain ⟨t0, t1⟩ := boxT_at (boxT_call hb1))
    go_ret
    exact ⟨by rw [HR.out]; rfl, boxT_below (boxT_call hb1)⟩
   ·have hhi' : decide (i ≥ (ne : Int)) = false := decide_eq_false hhi
    have hin := fun W (hb : Below w.heap.size w W) => indexStr NA nn nc t.names s W h.nlen (Nat.le_trans h.ncap.1 h.ncap.2) (h.names.below hb)
    obtain ⟨k, rfl⟩ := Int.eq_ofNat_of_zero_le (show 0 ≤ i by omega)
    have hk : k < ne := by omega
    have hlen : k < t.events.length := by rw [h.elen]; exact hk
    by_cases hmem : s.data.toList ∈ t.names
    ·have hx : idxL t.names s.data.toList = ((t.names.idxOf s.data.toList : Nat) : Int) := if_pos hmem
     obtain ⟨d, hd⟩ : ∃ d, t.names.idxOf s.data.toList = d := ⟨_, rfl⟩
     have hdl : d < nn := by rw [← hd, ← h.nlen]; exact List.idxOf_lt_length_of_mem hmem
     rw [hd] at hx
     rw [hx] at hin
     obtain ⟨b, off, e, hc⟩ := h.evs (by omega)
     obtain ⟨-, -, K, c, x1, hK, hKc, hcK, -, -⟩ := hc k _ (List.getElem?_eq_getElem hlen)
     have hg : t.events.getD k noEv = t.events[k] := by simp [List.getD, hlen]
     rw [← hg] at x1 hK hKc
     obtain ⟨ev, hev⟩ : ∃ ev, t.events.getD k noEv = ev := ⟨_, rfl⟩
     rw [hev] at x1 hK hKc
     rw [Nat.mul_comm 2 k] at x1
     have hC := fun W (hb : Below w.heap.size w W) => containsInt K ev.ids.length c ev.ids (d : Int) W (Nat.le_trans hKc hcK) (hK.below hb)
     obtain ⟨r, hr⟩ : ∃ r, decide ((d : Int) ∈ ev.ids) = r := ⟨_, rfl⟩
     rw [hr] at hC
     obtain ⟨q, hq⟩ : ∃ q, ev.ids.length = q := ⟨_, rfl⟩
     rw [hq] at hC x1
     have HR := Lib.hid (show holdsT t (k : Int) s.data.toList = r by
      rw [HE.out, decide_eq_true (show (0 : Int) ≤ (k : Int) ∧ (k : Int) < (t.events.length : Int) by omega), decide_eq_true hmem, hd, Int.toNat_natCast, hev, hr]
      rfl)
     have HC := Lib.hid hC
     have HI := Lib.hid hin
     have HX := Lib.hid x1
     have hd0 : decide ((d : Int) ≥ 0) = true := by simp
     have hk0 : (0 : Int) ≤ (k : Int) := by omega
     have hk1 : (k : Int) < (ne : Int) := by omega
     subst e
     clear h hM hmay hm hin hmem hx hd hc hK hKc hcK hg hev hC hr hq x1 hlen
     go_enter Tryz.func104, Tryz.ntmps104
     go_wp2_with (first
      | (go_at_call 16; refine (HM.out _ ((Below.refl _ _).alloc (Nat.le_refl _) _)).mono ?_; rintro e w1 ⟨rfl, hb1⟩; obtain ⟨t0, t1⟩ := boxT_at (boxT_call hb1); have y1 := below_cell (boxT_below (boxT_call hb1)) HX.out)
      | (go_at_call 71; refine (HI.out _ (boxT_below (boxT_call hb1))).mono ?_; rintro e w' ⟨rfl, rfl⟩)
      | (go_at_call 73; refine (HC.out _ (boxT_below (boxT_call hb1))).mono ?_; rintro e w' ⟨rfl, rfl⟩))
     go_ret
     exact ⟨by rw [HR.out]; rfl, boxT_below (boxT_call hb1)⟩
    ·have hx : idxL t.names s.data.toList = -1 := if_neg hmem
     rw [hx] at hin
     have HI := Lib.hid hin
     have HR := Lib.hid (show holdsT t (k : Int) s.data.toList = false by rw [HE.out, decide_eq_false hmem]; simp)
     clear h hM hmay hm hin hmem hx hlen
     go_enter Tryz.func104, Tryz.ntmps104
     go_wp2_with (first
      | (go_at_call 16; refine (HM.out _ ((Below.refl _ _).alloc (Nat.le_refl _) _)).mono ?_; rintro e w1 ⟨rfl, hb1⟩; obtain ⟨t0, t1⟩ := boxT_at (boxT_call hb1))
      | (go_at_call 71; refine (HI.out _ (boxT_below (boxT_call hb1))).mono ?_; rintro e w' ⟨rfl, rfl⟩))
     go_ret
     exact ⟨by rw [HR.out]; rfl, boxT_below (boxT_call hb1)⟩
end Go.Proofs.YtdbgaccnejffpaaGreat.Trace

namespace Go.Proofs.YtdbgaccnejffpaaGreat.Trace
open Go.RowKit Go.Proofs.YtdbgaccnejffpaaGreat.Ints Go.Proofs.YtdbgaccnejffpaaGreat.Mem
end Go.Proofs.YtdbgaccnejffpaaGreat.Trace

namespace Go.Proofs.YtdbgaccnejffpaaGreat.Sat
open Go.RowKit Go.Proofs.YtdbgaccnejffpaaGreat.Ints Go.Proofs.YtdbgaccnejffpaaGreat.Mem Go.Proofs.YtdbgaccnejffpaaGreat.Src Go.Proofs.YtdbgaccnejffpaaGreat.Paths Go.Proofs.YtdbgaccnejffpaaGreat.Late Go.Proofs.YtdbgaccnejffpaaGreat.Trace
theorem enterPv : ∀ args w, (callFunc 75 args).run Tryz.prog w = .ok (.enter 75 args) w := enters_of Tryz.func75 (by kernel_rfl) rfl
theorem enterNx : ∀ args w, (callFunc 78 args).run Tryz.prog w = .ok (.enter 78 args) w := enters_of Tryz.func78 (by kernel_rfl) rfl
theorem enterBo : ∀ args w, (callFunc 74 args).run Tryz.prog w = .ok (.enter 74 args) w := enters_of Tryz.func74 (by kernel_rfl) rfl
theorem enterPr : ∀ args w, (callFunc 72 args).run Tryz.prog w = .ok (.enter 72 args) w := enters_of Tryz.func72 (by kernel_rfl) rfl
theorem enterNd : ∀ args w, (callFunc 36 args).run Tryz.prog w = .ok (.enter 36 args) w := enters_of Tryz.func36 (by kernel_rfl) rfl
def prevB (J : Jd) (lo hi : Int) (f : Nat → Bool) (i : Nat) : Bool := decide (0 < i) && (f (i - 1) && Ival.hasS lo hi ((tmOf J.t).tm i - (tmOf J.t).tm (i - 1)))
def nextB (J : Jd) (lo hi : Int) (f : Nat → Bool) (i : Nat) : Bool := decide (i + 1 < J.n) && (f (i + 1) && Ival.hasS lo hi ((tmOf J.t).tm (i + 1) - (tmOf J.t).tm i))
theorem three_boxes {w W1 W2 W3 : World} {c1 c2 c3 : Array Value} {T1 T2 T3 : TypeId} (h1 : w.alloc (.cells c1 T1) = W1) (h2 : W1.alloc (.cells c2 T2) = W2) (h3 : W2.alloc (.cells c3 T3) = W3) :
  Below w.heap.size w W3 ∧ (∀ k u, c1[k]? = some u → W3.cell? ⟨w.heap.size, k, none⟩ = some u) ∧ (∀ k u, c2[k]? = some u → W3.cell? ⟨w.heap.size + 1, k, none⟩ = some u) ∧ (∀ k u, c3[k]? = some u → W3.cell? ⟨w.heap.size + 2, k, none⟩ = some u) := by
 have s1 : W1.heap.size = w.heap.size + 1 := by rw [← h1]; simp
 have s2 : W2.heap.size = w.heap.size + 2 := by rw [← h2]; simp [s1]
 have b1 : Below w.heap.size w W1 := by rw [← h1]; exact (Below.refl _ _).alloc (Nat.le_refl _) _
 have b2 : Below W1.heap.size W1 W2 := by rw [← h2]; exact (Below.refl _ _).alloc (Nat.le_refl _) _
 have b3 : Below W2.heap.size W2 W3 := by rw [← h3]; exact (Below.refl _ _).alloc (Nat.le_refl _) _
 refine ⟨(b1.trans (b2.mono (by omega))).trans (b3.mono (by omega)), fun k u hu => ?_, fun k u hu => ?_, fun k u hu => ?_⟩
 ·have x := box_cell (w := w) (T := T1) k u hu
  rw [h1] at x
  exact below_cell b3 (below_cell b2 x)
 ·have x := box_cell (w := W1) (T := T2) k u hu
  rw [h2, s1] at x
  exact below_cell b3 x
 ·have x := box_cell (w := W2) (T := T3) k u hu
  rw [h3, s2] at x
  exact x
section
variable (J : Jd) (lo hi : Int) (b : Nat) (f : Nat → Bool) (w : World) (h : JW J w) (hr : RB w b J.n f)
include h hr
set_option maxHeartbeats 8000000 in
set_option maxRecDepth 100000 in
theorem landPrev : Calls Tryz.prog 41 #[.pointer (some ⟨J.gj, 0, none⟩), Ival.span lo hi, .slice (some ⟨b, 0, none⟩) J.n J.n] w (GotB w J.n (prevB J lo hi f)) := by
 obtain ⟨W1, h1⟩ : ∃ W1, w.alloc (.cells #[.pointer (some ⟨J.gj, 0, none⟩)] 52) = W1 := ⟨_, rfl⟩
 obtain ⟨W2, h2⟩ : ∃ W2, W1.alloc (.cells #[.int .i64 lo, .int .i64 hi] 45) = W2 := ⟨_, rfl⟩
 obtain ⟨W3, h3⟩ : ∃ W3, W2.alloc (.cells #[.slice (some ⟨b, 0, none⟩) J.n J.n] 32) = W3 := ⟨_, rfl⟩
 obtain ⟨hb, x1, x2, x3⟩ := three_boxes h1 h2 h3
 have s1 : W1.heap.size = w.heap.size + 1 := by rw [← h1]; simp
 have s2 : W2.heap.size = w.heap.size + 2 := by rw [← h2]; simp [s1]
 have HE := Lib.hid (landEach J.gj J.n J.ec 75 J.EA #[.pointer (some ⟨w.heap.size + 2, 0, none⟩), .pointer (some ⟨w.heap.size + 1, 0, none⟩), .pointer (some ⟨w.heap.size, 0, none⟩)] (prevB J lo hi f) W3 (h.below hb).c1 enterPv (fun i hi0 V hV =>
  prev1 J (w.heap.size + 2) (w.heap.size + 1) w.heap.size b i f lo hi V ((h.below hb).below hV) (below_cell hV (x3 0 _ rfl)) (below_cell hV (x2 0 _ rfl)) (below_cell hV (x2 1 _ rfl)) (below_cell hV (x1 0 _ rfl)) ((hr.below hb).below hV) hi0) (by have := h.hn; omega))
 have HB := Lib.hid hb
 have y1 := x1 0 _ rfl
 clear h hr hb x1 x2 x3
 go_enter Tryz.func41, Tryz.ntmps41
 go_wp2_with fail
 refine HE.out.mono ?_
 rintro e w4 hg
 obtain ⟨q, rfl, g1, g2⟩ := hg.after HB.out
 have HG := Lib.hid (And.intro g1 g2)
 clear hg g1 g2
 go_wp2_with fail
 go_ret
 exact ⟨q, rfl, HG.out.1, HG.out.2⟩
set_option maxHeartbeats 8000000 in
set_option maxRecDepth 100000 in
theorem landNext : Calls Tryz.prog 42 #[.pointer (some ⟨J.gj, 0, none⟩), Ival.span lo hi, .slice (some ⟨b, 0, none⟩) J.n J.n] w (GotB w J.n (nextB J lo hi f)) := by
 obtain ⟨W1, h1⟩ : ∃ W1, w.alloc (.cells #[.pointer (some ⟨J.gj, 0, none⟩)] 52) = W1 := ⟨_, rfl⟩
 obtain ⟨W2, h2⟩ : ∃ W2, W1.alloc (.cells #[.int .i64 lo, .int .i64 hi] 45) = W2 := ⟨_, rfl⟩
 obtain ⟨W3, h3⟩ : ∃ W3, W2.alloc (.cells #[.slice (some ⟨b, 0, none⟩) J.n J.n] 32) = W3 := ⟨_, rfl⟩
 obtain ⟨hb, x1, x2, x3⟩ := three_boxes h1 h2 h3
 have s1 : W1.heap.size = w.heap.size + 1 := by rw [← h1]; simp
 have s2 : W2.heap.size = w.heap.size + 2 := by rw [← h2]; simp [s1]
 have HE := Lib.hid (landEach J.gj J.n J.ec 78 J.EA #[.pointer (some ⟨w.heap.size + 2, 0, none⟩), .pointer (some ⟨w.heap.size + 1, 0, none⟩), .pointer (some ⟨w.heap.size, 0, none⟩)] (nextB J lo hi f) W3 (h.below hb).c1 enterNx (fun i hi0 V hV =>
  next1 J (w.heap.size + 2) (w.heap.size + 1) w.heap.size b i f lo hi V ((h.below hb).below hV) (below_cell hV (x3 0 _ rfl)) (below_cell hV (x2 0 _ rfl)) (below_cell hV (x2 1 _ rfl)) (below_cell hV (x1 0 _ rfl)) ((hr.below hb).below hV) hi0) (by have := h.hn; omega))
 have HB := Lib.hid hb
 have y1 := x1 0 _ rfl
 clear h hr hb x1 x2 x3
 go_enter Tryz.func42, Tryz.ntmps42
 go_wp2_with fail
 refine HE.out.mono ?_
 rintro e w4 hg
 obtain ⟨q, rfl, g1, g2⟩ := hg.after HB.out
 have HG := Lib.hid (And.intro g1 g2)
 clear hg g1 g2
 go_wp2_with fail
 go_ret
 exact ⟨q, rfl, HG.out.1, HG.out.2⟩
end
def bothB (k : Int) (x y : Bool) : Bool := if k = 5 then x && y else if k = 6 then x || y else !x || y
set_option maxHeartbeats 8000000 in
set_option maxRecDepth 100000 in
theorem both1 (bk ba bb b1 b2 n i : Nat) (k : Int) (f g : Nat → Bool) (w : World) (hk : k = 5 ∨ k = 6 ∨ k = 7) (x0 : w.cell? ⟨bk, 0, none⟩ = some (.int .i64 k)) (x1 : w.cell? ⟨ba, 0, none⟩ = some (.slice (some ⟨b1, 0, none⟩) n n)) (x2 : w.cell? ⟨bb, 0, none⟩ = some (.slice (some ⟨b2, 0, none⟩) n n)) (hf : RB w b1 n f) (hg : RB w b2 n g) (hin : i < n) :
  Calls Tryz.prog 74 #[.int .i64 ((i : Nat) : Int), .pointer (some ⟨bk, 0, none⟩), .pointer (some ⟨ba, 0, none⟩), .pointer (some ⟨bb, 0, none⟩)] w fun e w' => e = .returned (.bool (bothB k (f i) (g i))) ∧ Below w.heap.size w w' := by
 have y1 := hf i hin
 have y2 := hg i hin
 have HB0 := Lib.hid (Below.refl w.heap.size w)
 clear hf hg
 rcases hk with rfl | rfl | rfl
 all_goals
  cases hF : f i <;> cases hG : g i
  all_goals
   rw [hF] at y1
   rw [hG] at y2
   clear hF hG
   go_enter Tryz.func74, Tryz.ntmps74
   go_wp2_with fail
   go_ret
   exact ⟨rfl, HB0.out⟩
set_option maxHeartbeats 8000000 in
set_option maxRecDepth 100000 in
theorem landBoth (J : Jd) (k : Int) (b1 b2 : Nat) (f g : Nat → Bool) (w : World) (h : JW J w) (hk : k = 5 ∨ k = 6 ∨ k = 7) (hf : RB w b1 J.n f) (hg : RB w b2 J.n g) :
  Calls Tryz.prog 40 #[.pointer (some ⟨J.gj, 0, none⟩), .int .i64 k, .slice (some ⟨b1, 0, none⟩) J.n J.n, .slice (some ⟨b2, 0, none⟩) J.n J.n] w (GotB w J.n (fun i => bothB k (f i) (g i))) := by
 obtain ⟨W1, h1⟩ : ∃ W1, w.alloc (.cells #[.int .i64 k] 3) = W1 := ⟨_, rfl⟩
 obtain ⟨W2, h2⟩ : ∃ W2, W1.alloc (.cells #[.slice (some ⟨b1, 0, none⟩) J.n J.n] 32) = W2 := ⟨_, rfl⟩
 obtain ⟨W3, h3⟩ : ∃ W3, W2.alloc (.cells #[.slice (some ⟨b2, 0, none⟩) J.n J.n] 32) = W3 := ⟨_, rfl⟩
 obtain ⟨hb, x1, x2, x3⟩ := three_boxes h1 h2 h3
 have s1 : W1.heap.size = w.heap.size + 1 := by rw [← h1]; simp
 have s2 : W2.heap.size = w.heap.size + 2 := by rw [← h2]; simp [s1]
 have HE := Lib.hid (landEach J.gj J.n J.ec 74 J.EA #[.pointer (some ⟨w.heap.size, 0, none⟩), .pointer (some ⟨w.heap.size + 1, 0, none⟩), .pointer (some ⟨w.heap.size + 2, 0, none⟩)] (fun i => bothB k (f i) (g i)) W3 (h.below hb).c1 enterBo (fun i hi0 V hV =>
  both1 w.heap.size (w.heap.size + 1) (w.heap.size + 2) b1 b2 J.n i k f g V hk (below_cell hV (x1 0 _ rfl)) (below_cell hV (x2 0 _ rfl)) (below_cell hV (x3 0 _ rfl)) ((hf.below hb).below hV) ((hg.below hb).below hV) hi0) (by have := h.hn; omega))
 have HB := Lib.hid hb
 clear h hk hf hg hb x1 x2 x3
 go_enter Tryz.func40, Tryz.ntmps40
 go_wp2_with fail
 refine HE.out.mono ?_
 rintro e w4 hg
 obtain ⟨q, rfl, g1, g2⟩ := hg.after HB.out
 have HG := Lib.hid (And.intro g1 g2)
 clear hg g1 g2
 go_wp2_with fail
 go_ret
 exact ⟨q, rfl, HG.out.1, HG.out.2⟩
set_option maxHeartbeats 8000000 in
set_option maxRecDepth 100000 in
theorem prop1 (J : Jd) (bx bd i : Nat) (d : Int) (w : World) (h : JW J w) (hx : w.cell? ⟨bx, 0, none⟩ = some (.pointer (some ⟨J.gj, 0, none⟩))) (hd : w.cell? ⟨bd, 0, none⟩ = some (.int .i64 d)) (hin : i < J.n) :
  Calls Tryz.prog 72 #[.int .i64 ((i : Nat) : Int), .pointer (some ⟨bx, 0, none⟩), .pointer (some ⟨bd, 0, none⟩)] w fun e w' => e = .returned (.bool (decide (d ∈ (J.t.events.getD i noEv).ids))) ∧ Below w.heap.size w w' := by
 obtain ⟨b, off, K, c, hE, -, -, x2, hK, hKc, hcm⟩ := h.ev hin
 obtain ⟨ev, hev⟩ : ∃ ev, J.t.events.getD i noEv = ev := ⟨_, rfl⟩
 rw [hev] at x2 hK hKc ⊢
 have c1 := h.c1
 rw [hE] at c1
 obtain ⟨r, hr⟩ : ∃ r, decide (d ∈ ev.ids) = r := ⟨_, rfl⟩
 have HC := Lib.hid (containsInt K ev.ids.length c ev.ids d w.drew (Nat.le_trans hKc hcm) hK.drew)
 obtain ⟨q, hq⟩ : ∃ q, ev.ids.length = q := ⟨_, rfl⟩
 rw [hr] at HC ⊢
 rw [hq] at HC x2
 have hii : ((i : Nat) : Int) < ((J.n : Nat) : Int) := by omega
 obtain ⟨g, hg⟩ : ∃ g, J.gj = g := ⟨_, rfl⟩
 obtain ⟨n, hn⟩ : ∃ n, J.n = n := ⟨_, rfl⟩
 rw [hg] at c1 hx
 rw [hn] at c1 hii
 have HB0 := Lib.hid (Below.refl w.heap.size w)
 clear h hE hK hKc hcm hev hr hq hg hn hin
 go_enter Tryz.func72, Tryz.ntmps72
 go_wp2_with fail
 refine wp_region_held_drew (S := fun V => V.cell? ⟨bx, 0, none⟩ = some (.pointer (some ⟨g, 0, none⟩)) ∧ V.cell? ⟨g, 1, none⟩ = some (.slice (some ⟨b, off, none⟩) n J.ec) ∧ V.cell? ⟨b, off + i * 2 + 1, none⟩ = some (.slice K q c) ∧ V.cell? ⟨bd, 0, none⟩ = some (.int .i64 d)) (by kernel_rfl) ⟨hx, c1, x2, hd⟩ (fun hHeld => ?_)
 refine tkOp 0 hHeld ?_
 refine tkOp 1 hHeld ?_
 refine tkOp 2 hHeld ?_
 refine tkOp 3 hHeld ?_
 refine tkOp 4 hHeld ?_
 refine tkOp 5 hHeld ?_
 refine tkOp 6 hHeld ?_
 refine tkOp 7 hHeld ?_
 refine tkOp 8 hHeld ?_
 refine tkCall 9 (fun Kt hKt => ?_)
 go_simp
 (go_at_call 73; refine HC.out.mono ?_; rintro e w1 ⟨rfl, rfl⟩)
 refine hKt.out _ _ ?_ (fun hT => ?_)
 ·(exact ⟨hx, c1, x2, hd⟩)
 clear hKt Kt hHeld
 have hHeld := hT
 clear hT
 try simp only [Act.put, tkA, tkB, tkC]
 refine tkOp 10 hHeld ?_
 refine wpAnyH_done (by kernel_rfl) ?_ _
 clear hHeld
 go_wp2_with fail
 go_ret
 exact ⟨rfl, HB0.out.drew⟩
set_option maxHeartbeats 8000000 in
set_option maxRecDepth 100000 in
theorem landProp (J : Jd) (s : ByteArray) (w : World) (h : JW J w) :
  Calls Tryz.prog 37 #[.pointer (some ⟨J.gj, 0, none⟩), .string s] w (GotB w J.n (fun i => holdsT J.t ((i : Nat) : Int) s.data.toList)) := by
 obtain ⟨W1, h1⟩ : ∃ W1, w.alloc (.cells #[.pointer (some ⟨J.gj, 0, none⟩)] 52) = W1 := ⟨_, rfl⟩
 obtain ⟨d, hd⟩ : ∃ d, idxL J.t.names s.data.toList = d := ⟨_, rfl⟩
 obtain ⟨W2, h2⟩ : ∃ W2, W1.alloc (.cells #[.int .i64 d] 3) = W2 := ⟨_, rfl⟩
 have s1 : W1.heap.size = w.heap.size + 1 := by rw [← h1]; simp
 have b1 : Below w.heap.size w W1 := by rw [← h1]; exact (Below.refl _ _).alloc (Nat.le_refl _) _
 have b2 : Below W1.heap.size W1 W2 := by rw [← h2]; exact (Below.refl _ _).alloc (Nat.le_refl _) _
 have hb : Below w.heap.size w W2 := b1.trans (b2.mono (by omega))
 have x1 : W1.cell? ⟨w.heap.size, 0, none⟩ = some (.pointer (some ⟨J.gj, 0, none⟩)) := by rw [← h1]; exact box_cell 0 _ rfl
 have x2 : W2.cell? ⟨w.heap.size, 0, none⟩ = some (.pointer (some ⟨J.gj, 0, none⟩)) := below_cell b2 x1
 have x3 : W2.cell? ⟨w.heap.size + 1, 0, none⟩ = some (.int .i64 d) := by
  have x := box_cell (w := W1) (cs := #[.int .i64 d]) (T := 3) 0 _ rfl
  rwa [h2, s1] at x
 have HI := indexStr J.NA J.nn J.nc J.t.names s W1 h.tr.nlen (Nat.le_trans h.tr.ncap.1 h.tr.ncap.2) (h.tr.names.below b1)
 rw [hd] at HI
 have HI := Lib.hid HI
 have HE := Lib.hid (landEach J.gj J.n J.ec 72 J.EA #[.pointer (some ⟨w.heap.size, 0, none⟩), .pointer (some ⟨w.heap.size + 1, 0, none⟩)] (fun i => holdsT J.t ((i : Nat) : Int) s.data.toList) W2 (h.below hb).c1 enterPr (fun i hi0 V hV => by
  have := prop1 J w.heap.size (w.heap.size + 1) i d V ((h.below hb).below hV) (below_cell hV x2) (below_cell hV x3) hi0
  rw [← hd, ← holds_idx h.mt (by rw [h.tr.elen]; exact hi0) s.data.toList] at this
  exact this) (by have := h.hn; omega))
 have c0 := (h.below b1).c0
 have HB := Lib.hid hb
 obtain ⟨g, hg⟩ : ∃ g, J.gj = g := ⟨_, rfl⟩
 rw [hg] at c0 x1 x2 HE h1 ⊢
 clear h hd b1 b2 hb x3 hg
 go_enter Tryz.func37, Tryz.ntmps37
 go_wp2_with fail
 refine HI.out.mono ?_
 rintro e w5 ⟨rfl, rfl⟩
 go_wp2_with fail
 refine HE.out.mono ?_
 rintro e w4 hg
 obtain ⟨q, rfl, g1, g2⟩ := hg.after HB.out
 have HG := Lib.hid (And.intro g1 g2)
 clear hg g1 g2
 go_wp2_with fail
 go_ret
 exact ⟨q, rfl, HG.out.1, HG.out.2⟩
end Go.Proofs.YtdbgaccnejffpaaGreat.Sat
