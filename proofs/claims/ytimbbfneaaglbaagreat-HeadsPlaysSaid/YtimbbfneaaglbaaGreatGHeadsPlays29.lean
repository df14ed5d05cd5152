/-
  The walks of the landed package trace: Names, Ids, May, Holds, end. By an AI agent.
  The walk of the reference's Encode. By an AI agent.
-/
import Derived.Test.YtimbbfneaaglbaaGreatGHeadsPlays24
import Derived.Test.YtimbbfneaaglbaaGreatGHeadsPlays7
import Derived.Test.YtimbbfneaaglbaaGreatGHeadsPlays28
import Derived.Test.YtimbbfneaaglbaaGreatGHeadsPlays16
import Derived.Test.YtimbbfneaaglbaaGreatGHeadsPlays6
namespace Go.Proofs.YtimbbfneaaglbaaGreat.Trace
open Go.RowKit Go.Proofs.YtimbbfneaaglbaaGreat.Ints Go.Proofs.YtimbbfneaaglbaaGreat.Mem

set_option maxHeartbeats 4000000 in
set_option maxRecDepth 100000 in
theorem landNames (A : Option Addr) (n c : Nat) (l : List (List UInt8)) (w : World) (hl : l.length = n) (hnc : n ≤ c) (h : Strs w A l) (hs : ∀ s ∈ l, s.length ≤ maxLen) :
    Calls Tryz.prog 61 #[.slice A n c] w fun e w' => e = .returned (.bool (namesOk l)) ∧ w' = w := by
  by_cases h64 : n ≤ 64
  · have hg : decide ((n : Int) > 64) = false := by simp; omega
    have hni : (n : Int) ≤ 64 := by omega
    have HL := Lib.hid hl
    have HD := Lib.hid h
    have HS := Lib.hid hs
    clear hl h hs
    go_enter Tryz.func61, Tryz.ntmps61
    go_wp2
    go_loop [10] (fun i => ∃ k : Nat, k ≤ n ∧ i = .int .i64 k ∧ Hid (∀ j, j < k → NameGood l j)) (fun i => n - (intOf i).toNat)
    case atStart => exact ⟨0, Nat.zero_le _, rfl, fun j hj => absurd hj (by omega)⟩
    case round =>
      obtain ⟨k, hk, rfl, HG⟩ := hrel
      by_cases hkn : k < n
      · have hkn' : (k : Int) < (n : Int) := by omega
        have hkl : k < l.length := by have := HL.out; omega
        obtain ⟨b, off, e, hc⟩ := HD.out (by omega)
        have x0 := strs_at hc hkl
        obtain ⟨s, hse⟩ : ∃ s : ByteArray, s = ⟨(l.getD k []).toArray⟩ := ⟨_, rfl⟩
        have hsd : s.data.toList = l.getD k [] := by rw [hse]
        rw [← hse] at x0
        have hsz : s.size ≤ maxLen := by
          have h1 := HS.out (l.getD k []) (by simp [List.getD, hkl])
          rw [← hsd, Array.length_toList] at h1
          exact h1
        have hN := fun W => Lex.landName s W hsz
        have hC := fun W (hb : W = w) => containsStr A k c (l.take k) s W (by rw [List.length_take]; omega) (by omega) (hb ▸ HD.out.take k)
        rw [hsd] at hN hC
        subst e
        have HKL := Lib.hid hkl
        clear hse hsd hsz hc hkl
        rcases hnm : Lex.nameS (l.getD k [])
        · have HR := Lib.hid (names_no HKL.out (fun e => by rw [e.1] at hnm; cases hnm))
          rw [hnm] at hN
          have HN := Lib.hid hN
          clear hN hC hnm
          go_wp2_with (go_at_call 84; refine (HN.out _).mono ?_; rintro e w' ⟨rfl, rfl⟩)
          go_ret
          exact ⟨by rw [HR.out]; rfl, rfl⟩
        · rw [hnm] at hN
          have HN := Lib.hid hN
          by_cases hin : l.getD k [] ∈ l.take k
          · have HR := Lib.hid (names_no HKL.out (fun e => e.2 hin))
            rw [decide_eq_true hin] at hC
            have HC := Lib.hid hC
            clear hN hC hnm hin
            go_wp2_with (first
              | (go_at_call 84; refine (HN.out _).mono ?_; rintro e w' ⟨rfl, rfl⟩)
              | (go_at_call 81; refine (HC.out _ rfl).mono ?_; rintro e w' ⟨rfl, rfl⟩))
            go_ret
            exact ⟨by rw [HR.out]; rfl, rfl⟩
          · have HZ := Lib.hid (good_more HG.out ⟨hnm, hin⟩)
            rw [decide_eq_false hin] at hC
            have HC := Lib.hid hC
            clear hN hC hnm hin
            go_wp2_with (first
              | (go_at_call 84; refine (HN.out _).mono ?_; rintro e w' ⟨rfl, rfl⟩)
              | (go_at_call 81; refine (HC.out _ rfl).mono ?_; rintro e w' ⟨rfl, rfl⟩))
            go_round
            case rel => exact ⟨k + 1, by omega, by go_num, HZ⟩
            case measure => simp [intOf]; omega
      · have hge : decide ((k : Int) < (n : Int)) = false := by simp; omega
        have HR := Lib.hid (names_yes (l := l) (by have := HL.out; omega) (fun j hj => HG.out j (by have := HL.out; omega)))
        go_wp2
        go_ret
        exact ⟨by rw [HR.out]; rfl, rfl⟩
  · have hg : decide ((n : Int) > 64) = true := by simp; omega
    have HR := Lib.hid (names_long (l := l) (by omega))
    clear hl h hs
    go_enter Tryz.func61, Tryz.ntmps61
    go_wp2
    go_ret
    exact ⟨by rw [HR.out]; rfl, rfl⟩

/-- The least that the next id must pass: the last one that was read. -/
def lastId (l : List Int) (k : Nat) : Int := if k = 0 then -1 else l.getD (k - 1) 0
/-- What an id that is read says of the ids so far: with all those before it good. -/
theorem id_good {l : List Int} {p : Int} {k : Nat} (hG : ∀ j, j < k → IdGood l p j) : IdGood l p k ↔ lastId l k < l.getD k 0 ∧ l.getD k 0 < p := by
  have hpos : ∀ j, j < k → 0 ≤ l.getD j 0 := fun j hj => (hG j hj).1
  unfold lastId IdGood
  by_cases h0 : k = 0
  · rw [if_pos h0]
    constructor
    · rintro ⟨h1, h2, -⟩; exact ⟨by omega, h2⟩
    · rintro ⟨h1, h2⟩; exact ⟨by omega, h2, fun h => absurd h (by omega)⟩
  · rw [if_neg h0]
    have := hpos (k - 1) (by omega)
    constructor
    · rintro ⟨h1, h2, h3⟩; exact ⟨h3 (by omega), h2⟩
    · rintro ⟨h1, h2⟩; exact ⟨by omega, h2, fun _ => h1⟩
theorem lastId_next (l : List Int) (k : Nat) : lastId l (k + 1) = l.getD k 0 := by
  unfold lastId
  rw [if_neg (by omega), Nat.add_sub_cancel]

set_option maxHeartbeats 4000000 in
set_option maxRecDepth 100000 in
theorem landIds (A : Option Addr) (n c : Nat) (p : Int) (l : List Int) (w : World) (h : Rd .i64 w A n l) (hm : n ≤ maxLen) (hp : small64 p) :
    Calls Tryz.prog 64 #[.slice A n c, .int .i64 p] w fun e w' => e = .returned (.bool (idsOk l p)) ∧ w' = w := by
  have hni : (n : Int) ≤ 9223372036854775807 := by have : maxLen = 9223372036854775807 := rfl; omega
  obtain ⟨hp1, hp2⟩ := hp
  have HD := Lib.hid h
  have HL := Lib.hid h.len
  clear h hm
  go_enter Tryz.func64, Tryz.ntmps64
  go_wp2
  go_loop [5, 10] (fun a i => ∃ (k : Nat) (y : Int), k ≤ n ∧ i = .int .i64 k ∧ a = .int .i64 y ∧ -1 ≤ y ∧ y ≤ 9223372036854775807 ∧ Hid (y = lastId l k ∧ ∀ j, j < k → IdGood l p j)) (fun _ i => n - (intOf i).toNat)
  case atStart => exact ⟨0, -1, Nat.zero_le _, rfl, rfl, by decide, by decide, rfl, fun j hj => absurd hj (by omega)⟩
  case round =>
    obtain ⟨k, y, hk, rfl, rfl, hy1, hy2, HG⟩ := hrel
    by_cases hkn : k < n
    · have hkn' : (k : Int) < (n : Int) := by omega
      obtain ⟨b, off, e, hc⟩ := HD.out.cell (by omega)
      have x0 := hc k hkn
      have hw := wf_i64 (HD.out.wf k hkn)
      have hgk : l.getD k 0 = l[k]?.getD 0 := by simp [List.getD]
      have hlen : k < l.length := by have := HL.out; omega
      obtain ⟨x, hx⟩ : ∃ x, l[k]?.getD 0 = x := ⟨_, rfl⟩
      rw [hx] at x0 hw hgk
      obtain ⟨hw1, hw2⟩ := hw
      subst e
      have hiff := id_good HG.out.2
      rw [hgk, ← HG.out.1] at hiff
      by_cases h1 : x ≤ y
      · have HR := Lib.hid (ids_no (p := p) hlen (fun e => by have := (hiff.1 e).1; omega))
        clear hgk hlen hx hc hiff
        go_wp2
        go_ret
        exact ⟨by rw [HR.out]; rfl, rfl⟩
      · have h1' : decide (x ≤ y) = false := decide_eq_false h1
        by_cases h2 : p ≤ x
        · have h2' : decide (x ≥ p) = true := decide_eq_true h2
          have HR := Lib.hid (ids_no (p := p) hlen (fun e => by have := (hiff.1 e).2; omega))
          clear hgk hlen hx hc hiff
          go_wp2
          go_ret
          exact ⟨by rw [HR.out]; rfl, rfl⟩
        · have h2' : decide (x ≥ p) = false := decide_eq_false h2
          have HZ := Lib.hid (good_more HG.out.2 (p := IdGood l p) (k := k) (hiff.2 ⟨by omega, by omega⟩))
          have HY := Lib.hid (show x = lastId l (k + 1) by rw [lastId_next, hgk])
          have hx1 : -1 ≤ x := by omega
          clear hgk hlen hx hc hiff
          go_wp2
          go_round
          case rel => exact ⟨k + 1, x, by omega, by go_num, rfl, hx1, hw2, HY.out, HZ.out⟩
          case measure => simp [intOf]; omega
    · have hge : decide ((k : Int) < (n : Int)) = false := by simp; omega
      have HR := Lib.hid (ids_yes (l := l) (p := p) (fun j hj => HG.out.2 j (by have := HL.out; omega)))
      go_wp2
      go_ret
      exact ⟨by rw [HR.out]; rfl, rfl⟩
/-- The time of the last event that was read. -/
def lastTm (l : List Ev) (k : Nat) : Int := if k = 0 then 0 else (l.getD (k - 1) noEv).time
theorem ev_good {l : List Ev} {p : Int} {k : Nat} (ht : 0 ≤ (l.getD k noEv).time) : EvGood l p k ↔ idsOk (l.getD k noEv).ids p = true ∧ lastTm l k ≤ (l.getD k noEv).time := by
  unfold lastTm EvGood
  by_cases h0 : k = 0
  · rw [if_pos h0]
    exact ⟨fun e => ⟨e.1, ht⟩, fun e => ⟨e.1, fun h => absurd h (by omega)⟩⟩
  · rw [if_neg h0]
    exact ⟨fun e => ⟨e.1, e.2 (by omega)⟩, fun e => ⟨e.1, fun _ => e.2⟩⟩
theorem lastTm_next (l : List Ev) (k : Nat) : lastTm l (k + 1) = (l.getD k noEv).time := by
  unfold lastTm
  rw [if_neg (by omega), Nat.add_sub_cancel]

set_option maxHeartbeats 4000000 in
set_option maxRecDepth 100000 in
theorem landMay (NA : Option Addr) (nn nc : Nat) (EA : Option Addr) (ne ec : Nat) (t : Tr) (w : World) (h : TrOk Any w NA nn nc EA ne ec t) :
    Calls Tryz.prog 33 #[.agg #[.slice NA nn nc, .slice EA ne ec]] w fun e w' => e = .returned (.bool (mayT t)) ∧ Below w.heap.size w w' := by
  have hm : maxLen = 9223372036854775807 := rfl
  have hni : (nn : Int) ≤ 9223372036854775807 := by have := h.ncap; omega
  have hei : (ne : Int) ≤ 9223372036854775807 := by have := h.ecap; omega
  have HD := Lib.hid h
  have hN := fun W (hb : Below w.heap.size w W) => landNames NA nn nc t.names W h.nlen h.ncap.1 (h.names.below hb) h.sizes
  obtain ⟨ns, hns⟩ : ∃ b, namesOk t.names = b := ⟨_, rfl⟩
  rw [hns] at hN
  have HN := Lib.hid hN
  cases ns
  · have HR := Lib.hid (show mayT t = false by unfold mayT; rw [hns]; rfl)
    clear h hN hns hm
    go_enter Tryz.func33, Tryz.ntmps33
    go_wp2_with (go_at_call 61; refine (HN.out _ ((Below.refl _ _).alloc (Nat.le_refl _) _)).mono ?_; rintro e w' ⟨rfl, rfl⟩)
    go_ret
    exact ⟨by rw [HR.out]; rfl, (Below.refl _ _).alloc (Nat.le_refl _) _⟩
  · have HE := Lib.hid (show mayT t = evsOk t.events (nn : Int) by unfold mayT; rw [hns, h.nlen]; rfl)
    clear h hN hns hm
    go_enter Tryz.func33, Tryz.ntmps33
    go_wp2_with (go_at_call 61; refine (HN.out _ ((Below.refl _ _).alloc (Nat.le_refl _) _)).mono ?_; rintro e w' ⟨rfl, rfl⟩)
    go_loopw [3, 13] (fun a i wr => ∃ (k : Nat) (y : Int), k ≤ ne ∧ i = .int .i64 k ∧ a = .int .u64 y ∧ 0 ≤ y ∧ y ≤ 18446744073709551615 ∧ Hid (y = lastTm t.events k ∧ ∀ j, j < k → EvGood t.events (nn : Int) j) ∧ Below (w.heap.size + 1) (boxT w NA nn nc EA ne ec) wr) (fun _ i _ => ne - (intOf i).toNat)
    case atStart => exact ⟨0, 0, Nat.zero_le _, rfl, rfl, by decide, by decide, ⟨rfl, fun j hj => absurd hj (by omega)⟩, Below.refl _ _⟩
    case round =>
      obtain ⟨k, y, hk, rfl, rfl, hy1, hy2, HG, hB⟩ := hrel
      obtain ⟨t0, t1⟩ := boxT_at hB
      have t0' : ∀ o : Obj, (wr.alloc o).cell? ⟨w.heap.size, 0, none⟩ = some (.slice NA nn nc) := fun o => Lib.cell?_alloc_marked o t0
      have t1' : ∀ o : Obj, (wr.alloc o).cell? ⟨w.heap.size, 1, none⟩ = some (.slice EA ne ec) := fun o => Lib.cell?_alloc_marked o t1
      have HB := Lib.hid hB
      have HBS : w.heap.size + 1 ≤ wr.heap.size := by have := hB.size; simpa [boxT] using this
      clear hB
      by_cases hkn : k < ne
      · have hkn' : (k : Int) < (ne : Int) := by omega
        have hk0 : (0 : Int) ≤ (k : Int) := by omega
        have HW := HD.out.below (boxT_below HB.out)
        have hlen : k < t.events.length := by rw [HW.elen]; exact hkn
        obtain ⟨b, off, e, hc⟩ := HW.evs (by omega)
        obtain ⟨x0, hw, K, c, x1, hK, hKc, hcK, -, -⟩ := hc k _ (List.getElem?_eq_getElem hlen)
        have hg : t.events.getD k noEv = t.events[k] := by simp [List.getD, hlen]
        rw [← hg] at x0 hw x1 hK hKc
        have hiff := ev_good (l := t.events) (p := (nn : Int)) (k := k) (wf_u64 hw).1
        rw [← HG.out.1] at hiff
        have hnext := lastTm_next t.events k
        obtain ⟨ev, hev⟩ : ∃ ev, t.events.getD k noEv = ev := ⟨_, rfl⟩
        rw [hev] at x0 hw x1 hK hKc hiff hnext
        rw [Nat.mul_comm 2 k] at x0 x1
        have hI := fun W (hb : Below wr.heap.size wr W) => landIds K ev.ids.length c (nn : Int) ev.ids W (hK.below hb) (Nat.le_trans hKc hcK) ⟨by omega, hni⟩
        obtain ⟨q, hq⟩ : ∃ q, ev.ids.length = q := ⟨_, rfl⟩
        rw [hq] at hI x1
        obtain ⟨tm, htm⟩ : ∃ tm, ev.time = tm := ⟨_, rfl⟩
        rw [htm] at x0 hw hiff hnext
        have HLEN := Lib.hid hlen
        subst e
        obtain ⟨hw1, hw2⟩ := wf_u64 hw
        rcases hid : idsOk ev.ids (nn : Int)
        · have HR := Lib.hid (evs_no (p := (nn : Int)) hlen (fun e => by have := (hiff.1 e).1; rw [hid] at this; cases this))
          rw [hid] at hI
          have HI := Lib.hid hI
          clear hI hid hc hg hlen hev hw hK hKc hcK HW hq htm hiff hnext
          go_wp2_with (go_at_call 64; refine (HI.out _ ((Below.refl _ _).alloc (Nat.le_refl _) _)).mono ?_; rintro e w' ⟨rfl, rfl⟩)
          go_ret
          exact ⟨by rw [HE.out, HR.out]; rfl, ((boxT_below HB.out).alloc (boxT_below HB.out).size _)⟩
        · rw [hid] at hI
          have HI := Lib.hid hI
          by_cases h3 : tm < y
          · have HR := Lib.hid (evs_no (p := (nn : Int)) hlen (fun e => by have := (hiff.1 e).2; omega))
            clear hI hid hc hg hlen hev hw hK hKc hcK HW hq htm hiff hnext
            go_wp2_with (go_at_call 64; refine (HI.out _ ((Below.refl _ _).alloc (Nat.le_refl _) _)).mono ?_; rintro e w' ⟨rfl, rfl⟩)
            go_ret
            exact ⟨by rw [HE.out, HR.out]; rfl, ((boxT_below HB.out).alloc (boxT_below HB.out).size _)⟩
          · have h3' : decide (tm < y) = false := decide_eq_false h3
            have HZ := Lib.hid (And.intro hnext.symm (good_more HG.out.2 (p := EvGood t.events (nn : Int)) (k := k) (hiff.2 ⟨hid, by omega⟩)))
            clear hI hid hc hg hlen hev hw hK hKc hcK HW hq htm hiff hnext
            go_wp2_with (go_at_call 64; refine (HI.out _ ((Below.refl _ _).alloc (Nat.le_refl _) _)).mono ?_; rintro e w' ⟨rfl, rfl⟩)
            go_roundw
            case rel => exact ⟨k + 1, tm, by omega, by go_num, rfl, hw1, hw2, HZ, HB.out.alloc HBS _⟩
            case measure => simp [intOf]; omega
      · have hge : decide ((k : Int) < (ne : Int)) = false := by simp; omega
        have HR := Lib.hid (evs_yes (l := t.events) (p := (nn : Int)) (fun j hj => HG.out.2 j (by have := HD.out.elen; omega)))
        go_wp2
        go_ret
        exact ⟨by rw [HE.out, HR.out]; rfl, boxT_below HB.out⟩
/-- No event of a trace that may be has a negative id. -/
theorem may_neg {t : Tr} (h : mayT t = true) {k : Nat} (hk : k < t.events.length) : (-1 : Int) ∉ (t.events.getD k noEv).ids := fun hm => by
  have h1 := ((evsOk_iff _ _).1 ((mayT_iff t).1 h).2 k hk).1
  obtain ⟨j, hj, e⟩ := List.getElem_of_mem hm
  have h2 := ((idsOk_iff _ _).1 h1 j hj).1
  rw [List.getD, List.getElem?_eq_getElem hj, Option.getD_some, e] at h2
  omega
theorem holds_idx {t : Tr} (h : mayT t = true) {k : Nat} (hk : k < t.events.length) (s : List UInt8) : holdsT t (k : Int) s = decide (idxL t.names s ∈ (t.events.getD k noEv).ids) := by
  unfold holdsT idxL
  rw [h, decide_eq_true (show (0 : Int) ≤ (k : Int) ∧ (k : Int) < (t.events.length : Int) by omega), Int.toNat_natCast]
  by_cases hs : s ∈ t.names
  · rw [decide_eq_true hs, if_pos hs]
    rfl
  · rw [decide_eq_false hs, if_neg hs, decide_eq_false (may_neg h hk)]
    rfl

end Go.Proofs.YtimbbfneaaglbaaGreat.Trace

namespace Go.Proofs.YtimbbfneaaglbaaGreat.Log
open Go.RowKit Go.Proofs.YtimbbfneaaglbaaGreat.Ints Go.Proofs.YtimbbfneaaglbaaGreat.Mem Go.Proofs.YtimbbfneaaglbaaGreat.SumMath Go.Proofs.YtimbbfneaaglbaaGreat.SumWalks Go.Proofs.YtimbbfneaaglbaaGreat.Trace Go.Proofs.YtimbbfneaaglbaaGreat.Record

theorem recs_next (es : List Ev) (k : Nat) (hk : k < es.length) : (es.take (k + 1)).flatMap recR = (es.take k).flatMap recR ++ recR (es.getD k noEv) := by
  rw [List.take_succ_eq_append_getElem hk, List.flatMap_append]
  simp [List.getD, hk]
theorem recs_len {es : List Ev} (h : ∀ e ∈ es, e.ids.length ≤ 64) : (es.flatMap recR).length ≤ 78 * es.length := by
  induction es with
  | nil => simp
  | cons e l ih =>
    rw [List.flatMap_cons, List.length_append, rec_len, List.length_cons]
    have h1 := h e (List.mem_cons_self ..)
    have h2 := ih (fun x hx => h x (List.mem_cons_of_mem _ hx))
    omega
theorem front_len {l : List (List UInt8)} (h : namesOk l = true) : (frontL l).length ≤ 1093 := by
  have h64 := ((namesOk_iff l).1 h).1
  have := flat_len (names := l) (m := 16) (fun s hs => (names_le h s hs).2)
  unfold frontL
  rw [List.length_append]
  have e : ([87, 71, 76, 1, (l.length : Int) % 256] : List Int).length = 5 := rfl
  omega
theorem head_len {l : List (List UInt8)} (h : namesOk l = true) : (headL l).length ≤ 1097 := by
  have := front_len h
  unfold headL
  rw [List.length_append]
  have e : ∀ s, (be4 s).length = 4 := fun s => rfl
  have := e (adn 1 (frontL l))
  omega
/-- The ids of a trace's events may be a record's. -/
theorem may_ids {t : Tr} (h : mayT t = true) {k : Nat} (hk : k < t.events.length) : idsOk (t.events.getD k noEv).ids t.names.length = true ∧ idsOk (t.events.getD k noEv).ids 64 = true := by
  rw [mayT_iff] at h
  have h1 := ((evsOk_iff _ _).1 h.2 k hk).1
  have h2 := ((namesOk_iff _).1 h.1).1
  exact ⟨h1, ids_wide (by omega) h1⟩
theorem may_len {t : Tr} (h : mayT t = true) : ∀ e ∈ t.events, e.ids.length ≤ 64 := by
  intro e he
  obtain ⟨k, hk, rfl⟩ := List.getElem_of_mem he
  have := ids_count (may_ids h hk).2
  have e1 : t.events.getD k noEv = t.events[k] := by simp [List.getD, hk]
  rw [e1] at this
  omega

set_option maxHeartbeats 4000000 in
set_option maxRecDepth 100000 in
theorem refEncode (NA : Option Addr) (nn nc : Nat) (EA : Option Addr) (ne ec : Nat) (t : Tr) (w : World) (h : TrOk Any w NA nn nc EA ne ec t) (hne : ne ≤ 1048576) :
    Calls Tryz.prog 7 #[.agg #[.slice NA nn nc, .slice EA ne ec]] w (GotBytes w (encL t)) := by
  have q63 : maxLen = 9223372036854775807 := rfl
  have HD := Lib.hid h
  have b0 := boxT_at (Below.refl (w.heap.size + 1) (boxT w NA nn nc EA ne ec))
  have hb1 : Below w.heap.size w (boxT w NA nn nc EA ne ec) := boxT_below (Below.refl _ _)
  have FM := refMay NA nn nc EA ne ec t (boxT w NA nn nc EA ne ec) (h.below hb1)
  obtain ⟨W1, hW1⟩ : ∃ W1, boxT w NA nn nc EA ne ec = W1 := ⟨_, rfl⟩
  have hs1 : W1.heap.size = w.heap.size + 1 := by rw [← hW1]; simp
  have hW : w.alloc (.cells #[.slice NA nn nc, .slice EA ne ec] 33) = W1 := hW1
  rw [hW1] at b0 hb1 FM
  obtain ⟨x0, x1⟩ := b0
  have HB1 := Lib.hid hb1
  rcases hm : mayT t
  · rw [hm] at FM
    have HM := Lib.hid FM
    have HE := Lib.hid (show encL t = [] by unfold encL; rw [hm]; rfl)
    clear hW1 h hm FM hb1
    go_enter Tryz.func7, Tryz.ntmps7
    go_wp2_with fail
    refine HM.out.mono ?_
    rintro e w2 ⟨rfl, hB2⟩
    go_wp2
    go_ret
    unfold GotBytes
    rw [HE.out]
    exact ⟨_, rfl, World.ownsRow_nil _ _ _ _, HB1.out.trans (hB2.mono HB1.out.size)⟩
  · rw [hm] at FM
    have HM := Lib.hid FM
    have hnames := (mayT_iff t).1 hm
    obtain ⟨E, hE⟩ : ∃ E : Nat → List Int, E = fun k => headL t.names ++ (t.events.take k).flatMap recR := ⟨_, rfl⟩
    have hE0 : E 0 = headL t.names := by rw [hE]; simp
    have hEn : E ne = encL t := by rw [hE]; unfold encL; rw [hm, if_pos rfl]; simp only; rw [List.take_of_length_le (by rw [h.elen]; exact Nat.le_refl _)]
    have hEs : ∀ k, k < ne → E (k + 1) = putR (E k) (t.events.getD k noEv) := fun k hk => by
      have hk2 : k < t.events.length := by rw [h.elen]; exact hk
      unfold putR
      rw [if_pos (may_ids hm hk2).2, hE]
      simp only
      rw [recs_next _ _ hk2, List.append_assoc]
    have hEl : ∀ k, k ≤ ne → (E k).length ≤ 100000000 := fun k hk => by
      rw [hE]
      simp only [List.length_append]
      have h1 := head_len hnames.1
      have h2 := recs_len (es := t.events.take k) (fun e he => may_len hm e (List.mem_of_mem_take he))
      have h3 : (t.events.take k).length ≤ ne := by rw [List.length_take]; have := h.elen; omega
      omega
    have hEb : ∀ k, k ≤ ne → ∀ z ∈ E k, (Lit.int .u8 z).wf = true := fun k hk z hz => by
      rw [hE] at hz
      rcases List.mem_append.1 hz with h1 | h1
      · exact u8_all (head_bytes _) z h1
      · obtain ⟨e, he, h2⟩ := List.mem_flatMap.1 h1
        obtain ⟨i, hi, rfl⟩ := List.getElem_of_mem (List.mem_of_mem_take he)
        have e1 : t.events.getD i noEv = t.events[i] := by simp [List.getD, hi]
        rw [← e1] at h2
        exact u8_all (rec_bytes (may_ids hm hi).2) z h2
    have HE0 := Lib.hid hE0
    have HEn := Lib.hid hEn
    have HEs := Lib.hid hEs
    have HEl := Lib.hid hEl
    have HEb := Lib.hid hEb
    have FH := Lib.hid (fun W (hb : Below w.heap.size w W) => refHeader NA nn nc t.names W h.nlen (by have := ((namesOk_iff _).1 hnames.1).1; rw [h.nlen] at this; exact this) (h.names.below hb) (fun s hs => (names_le hnames.1 s hs).2))
    have HMAY := Lib.hid hm
    clear hE hE0 hEn hEs hEl hEb hW1 h hm FM hb1 hnames
    go_enter Tryz.func7, Tryz.ntmps7
    go_wp2_with fail
    refine HM.out.mono ?_
    rintro e w2 ⟨rfl, hB2⟩
    have y0 := (hB2.cell (p := ⟨w.heap.size, 0, none⟩) (by rw [hs1]; exact Nat.lt_succ_self _)).trans x0
    have y1 := (hB2.cell (p := ⟨w.heap.size, 1, none⟩) (by rw [hs1]; exact Nat.lt_succ_self _)).trans x1
    have HB2 := Lib.hid (HB1.out.trans (hB2.mono HB1.out.size))
    have HW2 := Lib.hid (hB2)
    clear hB2 x0 x1
    go_wp2_with fail
    refine (FH.out w2 HB2.out).mono ?_
    intro e w3 hmade
    obtain ⟨v3, rfl, hown3, hB3⟩ := hmade
    have z0 := (hB3.cell (p := ⟨w.heap.size, 0, none⟩) (World.block_lt_of_cell? w2 _ y0)).trans y0
    have z1 := (hB3.cell (p := ⟨w.heap.size, 1, none⟩) (World.block_lt_of_cell? w2 _ y1)).trans y1
    have HB3 := Lib.hid (HB2.out.trans (hB3.mono HB2.out.size))
    have HO3 := Lib.hid (own_weaken hown3 HB2.out.size)
    clear hown3 hB3 y0 y1
    go_wp2_with fail
    go_loopw [3, 15] (fun v i wr => ∃ k : Nat, k ≤ ne ∧ i = .int .i64 k ∧ wr.ownsRow w.heap.size 5 1 v (E k).length ((E k).map (Value.int .u8)) ∧ Below w.heap.size w wr) (fun _ i _ => ne - (intOf i).toNat)
    case atStart => exact ⟨0, Nat.zero_le _, rfl, by rw [HE0.out]; exact HO3.out, HB3.out⟩
    case round =>
      obtain ⟨k, hk, rfl, hrow, hBr⟩ := hrel
      clear z0 z1
      by_cases hkn : k < ne
      · have HW := HD.out.below hBr
        obtain ⟨b, off, K, ck, rfl, c0, c1, hok⟩ := HW.evs.kids (k := k) (by rw [HW.elen]; exact hkn)
        have HN := Lib.hid (HEs.out k hkn)
        have hfl := HEl.out k hk
        obtain ⟨A2, c2, rfl, hc2, hm2, hA2, -⟩ := own_slice hrow
        have hrd := Rd.own hrow (HEb.out k hk)
        obtain ⟨ev, hev⟩ : ∃ ev, t.events.getD k noEv = ev := ⟨_, rfl⟩
        rw [hev] at c0 c1 hok HN
        obtain ⟨fl, hfl2⟩ : ∃ fl, (E k).length = fl := ⟨_, rfl⟩
        rw [hfl2] at hrd hc2 hfl
        have hal := (Below.refl _ wr).alloc (Nat.le_refl _) (.cells #[.int .u64 ev.time, .slice K ev.ids.length ck] 38)
        have FP := Lib.hid (refPutR A2 fl c2 (E k) ev K ck (wr.alloc (.cells #[.int .u64 ev.time, .slice K ev.ids.length ck] 38)) hc2 (by omega) (hrd.below hal) (hok.below hal))
        have HB4 := Lib.hid (hBr.trans (hal.mono hBr.size))
        have hbx := Blk.new wr #[.int .u64 ev.time, .slice K ev.ids.length ck] 38 [.int .u64 ev.time, .slice K ev.ids.length ck] rfl
        have y0 := hbx.cell 0 rfl
        have y1 := hbx.cell 1 rfl
        rw [hfl2]
        clear hev hfl2 hrow hrd hal HW hok hbx hBr
        go_wp2_with fail
        refine FP.out.mono ?_
        intro e w5 hmade
        obtain ⟨v5, rfl, hown5, hB5⟩ := hmade
        go_wp2
        go_roundw
        case rel => exact ⟨k + 1, by omega, by go_num, by rw [HN.out]; exact own_weaken hown5 HB4.out.size, HB4.out.trans (hB5.mono HB4.out.size)⟩
        case measure => simp [intOf]; omega
      · obtain rfl : k = ne := by omega
        go_wp2
        go_ret
        unfold GotBytes
        rw [← HEn.out]
        exact ⟨_, rfl, hrow, hBr⟩
end Go.Proofs.YtimbbfneaaglbaaGreat.Log
