/-
  The search for the least id that is free; a head by its id in a pool (stage 13, the landed code). By an AI agent.
  The landed pool's count, cells and start (stage 13). By an AI agent.
  A log that a fault cuts off, as plain lists (for P12.1, P12.2): the header is told just if it stands ahead of the fault, and so is each record. By an AI agent.
-/
import Derived.Test.YtimbbfneaaglbaaGHeadsApart32
import Derived.Lib.MinMax
import Derived.RegionTactic
import Derived.BigRegion
import Derived.Test.YtimbbfneaaglbaaGHeadsApart15
import Derived.Test.YtimbbfneaaglbaaGHeadsApart26
namespace Go.Proofs.Ytimbbfneaaglbaa.Heads
open Go.RowKit Go.Proofs.Ytimbbfneaaglbaa.Ints Go.Proofs.Ytimbbfneaaglbaa.Mem

set_option maxHeartbeats 8000000 in
set_option maxRecDepth 100000 in
theorem freeC (g bq : Nat) (A : Option Addr) (n c : Nat) (l : List Hd) (u0 u1 u2 u3 u5 u6 : Value) (w : World) (hb : Blk w g [u0, u1, u2, u3, .slice A n c, u5, u6]) (hq : w.cell? ⟨bq, 0, none⟩ = some (.pointer (some ⟨g, 0, none⟩)))
    (hl : l.length = n) (_hc : n ≤ c) (hr : RdH w A l) (j : Nat) (x : Hd) (hx : l[j]? = some x) :
    Calls Try.prog 65 #[.int .i64 (j : Nat), .pointer (some ⟨bq, 0, none⟩)] w fun e w' => e = .returned (.bool (decide ((j : Int) < x.id))) ∧ w' = w := by
  have hj : j < n := by rw [← hl]; exact (List.getElem?_eq_some_iff.1 hx).1
  obtain ⟨q, rfl, -, hcell⟩ := hr (by omega)
  obtain ⟨y0, -, -, -, -⟩ := hcell j x hx
  have b4 := hb.cell 4 rfl
  clear hcell hb hx
  go_enter Try.func65, Try.ntmps65
  go_wp2
  go_ret
  exact ⟨rfl, rfl⟩

set_option maxHeartbeats 8000000 in
set_option maxRecDepth 100000 in
theorem searchF (g bq : Nat) (A : Option Addr) (n c : Nat) (l : List Hd) (u0 u1 u2 u3 u5 u6 : Value) (w : World) (hb : Blk w g [u0, u1, u2, u3, .slice A n c, u5, u6]) (hq : w.cell? ⟨bq, 0, none⟩ = some (.pointer (some ⟨g, 0, none⟩)))
    (hl : l.length = n) (hn : n ≤ 1000000) (hc : n ≤ c) (hr : RdH w A l) (hm : ∀ (m j : Nat) (x y : Hd), m ≤ j → l[m]? = some x → l[j]? = some y → (m : Int) < x.id → (j : Int) < y.id) :
    Calls Try.prog 64 #[.int .i64 (n : Nat), .func (.func 65) #[] #[.pointer (some ⟨bq, 0, none⟩)]] w fun e w' => ∃ p, e = .returned (.int .i64 (p : Nat)) ∧ p ≤ n ∧
      (∀ (j : Nat) (h : Hd), j < p → l[j]? = some h → h.id ≤ (j : Int)) ∧ (∀ (j : Nat) (h : Hd), p ≤ j → l[j]? = some h → (j : Int) < h.id) ∧ w' = w := by
  have HF := Lib.hid (freeC g bq A n c l u0 u1 u2 u3 u5 u6 w hb hq hl hc hr)
  have HM := Lib.hid hm
  clear hb hq hr hm
  go_enter Try.func64, Try.ntmps64
  go_wp2_with fail
  go_loopw [5, 6] (fun vi vj wr => ∃ i j : Nat, vi = .int .i64 (i : Nat) ∧ vj = .int .i64 (j : Nat) ∧ i ≤ j ∧ j ≤ n ∧ Hid (∀ (m : Nat) (h : Hd), m < i → l[m]? = some h → h.id ≤ (m : Int)) ∧ Hid (∀ (m : Nat) (h : Hd), j ≤ m → l[m]? = some h → (m : Int) < h.id) ∧ wr = w) (fun vi vj _ => (intOf vj).toNat - (intOf vi).toNat)
  case atStart => exact ⟨0, n, rfl, rfl, Nat.zero_le _, Nat.le_refl _, Lib.hid (fun m h hm => absurd hm (Nat.not_lt_zero _)), Lib.hid (fun m h hm hh => by rw [List.getElem?_eq_none (by omega)] at hh; cases hh), rfl⟩
  case round =>
    obtain ⟨i, j, rfl, rfl, hij, hjn, hlo, hhi, rfl⟩ := hrel
    by_cases hlt : i < j
    · obtain ⟨q, hq⟩ : ∃ q, (i + j) / 2 = q := ⟨_, rfl⟩
      have hh : ((i : Int) + (j : Int)) / 2 = (q : Int) := by omega
      have hqi : i ≤ q := by omega
      have hqj : q < j := by omega
      obtain ⟨x, hx⟩ : ∃ x, l[q]? = some x := ⟨_, List.getElem?_eq_getElem (by omega)⟩
      have HQ := Lib.hid (And.intro hq hx)
      have FC := HF.out q x hx
      clear hq hx
      by_cases hlx : (q : Int) < x.id
      · rw [decide_eq_true hlx] at FC
        have HFC := Lib.hid FC
        clear FC
        go_wp2_with (go_at_call 65; refine HFC.out.mono ?_; rintro e w1 ⟨rfl, rfl⟩)
        go_roundw
        case rel => exact ⟨i, q, rfl, rfl, hqi, by omega, hlo, Lib.hid (fun m h h1 hh => HM.out q m x h h1 HQ.out.2 hh hlx), trivial⟩
        case measure => (show q - i < j - i; omega)
      · rw [decide_eq_false hlx] at FC
        have HFC := Lib.hid FC
        clear FC
        go_wp2_with (go_at_call 65; refine HFC.out.mono ?_; rintro e w1 ⟨rfl, rfl⟩)
        go_roundw
        case rel => exact ⟨q + 1, j, by simp, rfl, by omega, hjn, Lib.hid (fun m h h1 hh => by
          rcases Int.lt_or_le (m : Int) h.id with h2 | h2
          · exact absurd (HM.out m q h x (by omega) hh HQ.out.2 h2) (by omega)
          · exact h2), hhi, trivial⟩
        case measure => (show j - (q + 1) < j - i; omega)
    · obtain rfl : i = j := by omega
      go_wp2_with fail
      go_ret
      exact ⟨i, rfl, hjn, hlo.out, hhi.out, rfl⟩
set_option maxHeartbeats 8000000 in
set_option maxRecDepth 100000 in
theorem freeP_land (g : Nat) (A : Option Addr) (n c : Nat) (l : List Hd) (u0 u1 u2 u3 u5 u6 : Value) (w : World) (hb : Blk w g [u0, u1, u2, u3, .slice A n c, u5, u6])
    (hl : l.length = n) (hn : n ≤ 1000000) (hc : n ≤ c) (hr : RdH w A l) (hm : ∀ (m j : Nat) (x y : Hd), m ≤ j → l[m]? = some x → l[j]? = some y → (m : Int) < x.id → (j : Int) < y.id) :
    Calls Try.prog 50 #[.pointer (some ⟨g, 0, none⟩)] w fun e w' => ∃ p, e = .returned (.int .i64 (p : Nat)) ∧ p ≤ n ∧
      (∀ (j : Nat) (h : Hd), j < p → l[j]? = some h → h.id ≤ (j : Int)) ∧ (∀ (j : Nat) (h : Hd), p ≤ j → l[j]? = some h → (j : Int) < h.id) ∧ Below w.heap.size w w' := by
  have hal := (Below.refl _ w).alloc (Nat.le_refl _) (.cells #[.pointer (some ⟨g, 0, none⟩)] 32)
  have hb1 := hb.alloc (.cells #[.pointer (some ⟨g, 0, none⟩)] 32)
  have q0 := (Blk.new w #[.pointer (some ⟨g, 0, none⟩)] 32 [.pointer (some ⟨g, 0, none⟩)] rfl).cell 0 rfl
  have b4 := hb1.cell 4 rfl
  have HS := Lib.hid (searchF g w.heap.size A n c l u0 u1 u2 u3 u5 u6 _ hb1 q0 hl hn hc (hr.below hal) hm)
  have HAL := Lib.hid hal
  clear hb hb1 hr hal hm
  go_enter Try.func50, Try.ntmps50
  go_wp2_with (go_at_call 64; refine HS.out.mono ?_; rintro e w1 ⟨p, rfl, h1, h2, h3, rfl⟩)
  go_ret
  exact ⟨p, rfl, h1, h2, h3, HAL.out⟩
set_option maxHeartbeats 8000000 in
set_option maxRecDepth 100000 in
theorem find_land (g : Nat) (A : Option Addr) (n c : Nat) (l : List Hd) (id : Int) (u0 u1 u2 u3 u5 u6 : Value) (w : World) (hb : Blk w g [u0, u1, u2, u3, .slice A n c, u5, u6])
    (hl : l.length = n) (hn : n ≤ 1000000) (hc : n ≤ c) (hr : RdH w A l) (hs : l.Pairwise (fun a b => a.id < b.id)) :
    Calls Try.prog 30 #[.pointer (some ⟨g, 0, none⟩), .int .i64 id] w fun e w' => ∃ p b, e = .returned (.tuple #[.int .i64 (p : Nat), .bool b]) ∧
      (∀ (j : Nat) (h : Hd), j < p → l[j]? = some h → h.id < id) ∧ (∀ (j : Nat) (h : Hd), p ≤ j → l[j]? = some h → id ≤ h.id) ∧ (b = true ↔ ∃ h, l[p]? = some h ∧ h.id = id) ∧ Below w.heap.size w w' := by
  have b4 := hb.cell 4 rfl
  have HS := Lib.hid (searchC A n c l id w hl hn hc hr hs)
  clear hb hr
  go_enter Try.func30, Try.ntmps30
  go_wp2_with (go_at_call 52; refine HS.out.mono ?_; rintro e w1 ⟨p, b, rfl, h1, h2, h3, h4⟩)
  refine bodyPost_ret (v := .tuple #[.int .i64 (p : Nat), .bool b]) (by simp [results, Try.results30, go_sem]) rfl ?_
  exact ⟨p, b, rfl, h1, h2, h3, h4⟩
theorem find_nil (id : Int) (w : World) : Calls Try.prog 30 #[.pointer none, .int .i64 id] w fun e w' => e = .returned (.tuple #[.int .i64 0, .bool false]) ∧ w' = w := by
  go_enter Try.func30, Try.ntmps30
  go_wp2
  refine bodyPost_ret (v := .tuple #[.int .i64 0, .bool false]) (by simp [results, Try.results30, go_sem]) rfl ?_
  exact ⟨rfl, rfl⟩
end Go.Proofs.Ytimbbfneaaglbaa.Heads

namespace Go.Proofs.Ytimbbfneaaglbaa.Heads
open Go.RowKit Go.Proofs.Ytimbbfneaaglbaa.Ints Go.Proofs.Ytimbbfneaaglbaa.Mem Go.Proofs.Ytimbbfneaaglbaa.Src

theorem cellsC (h : Hd) (w : World) (hb : 0 ≤ h.ids ∧ h.ids ≤ 1000000) : Calls Try.prog 34 #[.agg #[.int .i64 h.id, .int .i64 h.at_, .int .i64 h.ix, .int .u64 h.tm, .int .i64 h.ids]] w fun e w' => e = .returned (.int .i64 (3 + h.ids)) ∧ Below w.heap.size w w' := by
  obtain ⟨h1, h2⟩ := hb
  go_enter Try.func34, Try.ntmps34
  go_wp2
  go_ret
  exact ⟨rfl, (Below.refl _ _).alloc (Nat.le_refl _) _⟩
set_option maxHeartbeats 8000000 in
set_option maxRecDepth 100000 in
theorem startC (g : Nat) (u0 u1 u3 u4 u5 u6 : Value) (first : Nat) (id : Int) (w : World) (hb : Blk w g [u0, u1, .int .i64 (first : Nat), u3, u4, u5, u6]) :
    Calls Try.prog 29 #[.pointer (some ⟨g, 0, none⟩), .int .i64 id] w fun e w' => e = .returned (.agg #[.int .i64 id, .int .i64 (first : Nat), .int .i64 0, .int .u64 0, .int .i64 0]) ∧ Below w.heap.size w w' := by
  have b2 := (hb.alloc (.cells #[.int .i64 0, .int .i64 0, .int .i64 0, .int .u64 0, .int .i64 0] 72)).cell 2 rfl
  clear hb
  go_enter Try.func29, Try.ntmps29
  have z := Blk.new w #[.int .i64 id, .int .i64 (first : Nat), .int .i64 0, .int .u64 0, .int .i64 0] 72 [.int .i64 id, .int .i64 (first : Nat), .int .i64 0, .int .u64 0, .int .i64 0] rfl
  have z0 := z.cell 0 rfl
  have z1 := z.cell 1 rfl
  have z2 := z.cell 2 rfl
  have z3 := z.cell 3 rfl
  have z4 := z.cell 4 rfl
  clear z
  go_wp2
  refine bodyPost_ret (v := .agg #[.int .i64 id, .int .i64 (first : Nat), .int .i64 0, .int .u64 0, .int .i64 0]) (by simp [results, Try.results29, go_sem, z0, z1, z2, z3, z4]) rfl ?_
  exact ⟨rfl, (Below.refl _ _).alloc (Nat.le_refl _) _⟩
set_option maxHeartbeats 8000000 in
set_option maxRecDepth 100000 in
theorem countC (g cl pk : Nat) (d : Int) (u0 u1 u2 u3 u4 : Value) (w : World) (hb : Blk w g [u0, u1, u2, u3, u4, .int .i64 (cl : Nat), .int .i64 (pk : Nat)]) (hd : 0 ≤ (cl : Int) + d ∧ (cl : Int) + d ≤ 1000000000) :
    Calls Try.prog 33 #[.pointer (some ⟨g, 0, none⟩), .int .i64 d] w fun e w' => e = .returned (.tuple #[]) ∧ Blk w' g [u0, u1, u2, u3, u4, .int .i64 ((cl : Int) + d), .int .i64 (max (pk : Int) ((cl : Int) + d))] ∧ w.grownBy w' (some g) := by
  obtain ⟨hd1, hd2⟩ := hd
  have b5 := hb.cell 5 rfl
  have b6 := hb.cell 6 rfl
  have f5 := hb.fz 5 rfl
  have f6 := hb.fz 6 rfl
  have hb2 := hb.set 5 (.int .i64 ((cl : Int) + d)) (by simp)
  have c5 := hb2.cell 5 rfl
  have c6 := hb2.cell 6 rfl
  have HB := Lib.hid hb2
  clear hb hb2
  go_enter Try.func33, Try.ntmps33
  go_wp2
  go_region
  all_goals go_wp2
  all_goals go_end0
  all_goals
    refine ⟨rfl, ?_, ?_⟩
    · exact (HB.out.set 6 _ (by simp)).drew
    · have h := grown_trans (grown_cell w ⟨g, 5, none⟩ (.int .i64 ((cl : Int) + d))) (grown_cell _ ⟨g, 6, none⟩ (.int .i64 (max (pk : Int) ((cl : Int) + d))))
      exact ⟨h.os, h.tape, h.output, h.size, h.block⟩
end Go.Proofs.Ytimbbfneaaglbaa.Heads

namespace Go.Proofs.Ytimbbfneaaglbaa.Scan
open Go.Proofs.Ytimbbfneaaglbaa.Ints Go.Proofs.Ytimbbfneaaglbaa.SumMath Go.Proofs.Ytimbbfneaaglbaa.SumWalks Go.Proofs.Ytimbbfneaaglbaa.Trace Go.Proofs.Ytimbbfneaaglbaa.Record Go.Proofs.Ytimbbfneaaglbaa.Log
open Go.Proofs.Ytimbbfneaaglbaa.Lex (nameS)

theorem byte_take {b : List Int} {k p : Nat} (h : p < k) : byteAt (b.take k) p = byteAt b p := by unfold byteAt; rw [List.getElem?_take_of_lt h]
/-- Names that are right, cut off at a place. -/
theorem names_cut {b : List Int} {k : Nat} (hk : k ≤ b.length) : ∀ (cnt p : Nat) (acc : List (List UInt8)), (∀ s ∈ acc, nameS s = true) → acc.Nodup → p ≤ k → (namesD b 5 cnt p acc).2.2 = 0 →
    namesD (b.take k) 10 cnt p acc = if (namesD b 5 cnt p acc).2.1 ≤ k then namesD b 5 cnt p acc else ([], 0, 10) := by
  have hlen : (b.take k).length = k := by rw [List.length_take]; omega
  intro cnt
  induction cnt with
  | zero =>
    intro p acc _ _ hp _
    rw [namesD_zero, namesD_zero, if_pos hp]
  | succ cnt ih =>
    intro p acc ha hn hp h
    by_cases e1 : b.length ≤ p
    · rw [namesD_end cnt e1] at h
      exact absurd h (by decide)
    by_cases e2 : byteAt b p < 1 ∨ 16 < byteAt b p
    · rw [namesD_len cnt e1 e2] at h
      exact absurd h (by decide)
    by_cases e3 : b.length < p + 1 + byteAt b p
    · rw [namesD_short cnt e1 e2 e3] at h
      exact absurd h (by decide)
    obtain ⟨s, hs⟩ : ∃ s, toU ((b.drop (p + 1)).take (byteAt b p)) = s := ⟨_, rfl⟩
    by_cases e4 : nameS s = false ∨ s ∈ acc
    · rw [namesD_none cnt e1 e2 e3 hs e4] at h
      exact absurd h (by decide)
    have e5 : nameS s = true := by
      rcases hh : nameS s
      · exact absurd (Or.inl hh) e4
      · rfl
    have e6 : s ∉ acc := fun hh => e4 (Or.inr hh)
    rw [namesD_next cnt e1 e2 e3 hs e5 e6] at h ⊢
    have ha2 : ∀ x ∈ acc ++ [s], nameS x = true := fun x hx => (List.mem_append.1 hx).elim (ha x) (fun h => by rw [List.mem_singleton.1 h]; exact e5)
    have hn2 : (acc ++ [s]).Nodup := List.nodup_append.2 ⟨hn, by simp, fun x hx y hy => by rw [List.mem_singleton.1 hy]; exact fun e => e6 (e ▸ hx)⟩
    have hP := ((namesD_inv (b := b) (miss := 5) (by decide) cnt (p + 1 + byteAt b p) (acc ++ [s]) ha2 hn2).1 h).1
    by_cases hpk : k ≤ p
    · rw [namesD_end cnt (by rw [hlen]; exact hpk), if_neg (by omega)]
    have hb := byte_take (b := b) (show p < k by omega)
    by_cases hsh : k < p + 1 + byteAt b p
    · rw [namesD_short cnt (by rw [hlen]; exact hpk) (by rw [hb]; exact e2) (by rw [hlen, hb]; exact hsh), if_neg (by omega)]
    have hs2 : toU (((b.take k).drop (p + 1)).take (byteAt (b.take k) p)) = s := by
      rw [hb, List.drop_take, List.take_take, Nat.min_eq_left (by omega)]
      exact hs
    have hnx := namesD_next (b := b.take k) (miss := 10) cnt (by rw [hlen]; exact hpk) (by rw [hb]; exact e2) (by rw [hlen, hb]; exact hsh) hs2 e5 e6
    rw [hnx, hb]
    exact ih _ _ ha2 hn2 (by omega) h
/-- A header that is right, cut off at a place, by a fault. -/
theorem head_cut10 {b : List Int} {k : Nat} (hk : k < b.length) (h : (headD b 5).2.2 = 0) : headD (b.take k) 10 = if (headD b 5).2.1 ≤ k then headD b 5 else ([], 0, 10) := by
  obtain ⟨g1, g2, g3, g4, g5, g6, g7⟩ := headD_ok (by decide) h
  have hlen : (b.take k).length = k := by rw [List.length_take]; omega
  have hP := ((namesD_inv (b := b) (miss := 5) (by decide) (byteAt b 4) 5 [] (fun s hs => by cases hs) List.nodup_nil).1 g4).1
  obtain ⟨P, hPe⟩ : ∃ P, (namesD b 5 (byteAt b 4) 5 []).2.1 = P := ⟨_, rfl⟩
  rw [g7]
  rw [hPe] at hP g5 g6 ⊢
  show headD (b.take k) 10 = if P + 4 ≤ k then _ else _
  by_cases h5 : k < 5
  · rw [if_neg (by omega)]
    unfold headD
    rw [if_pos (by omega)]
  have hb4 := byte_take (b := b) (show 4 < k by omega)
  have ht4 : (b.take k).take 4 = [87, 71, 76, 1] := by rw [List.take_take, Nat.min_eq_left (by omega)]; exact g2
  have hnc := names_cut (k := k) (by omega) (byteAt b 4) 5 [] (fun s hs => by cases hs) List.nodup_nil (by omega) g4
  have hhd : headD (b.take k) 10 = lastD (b.take k) 10 (namesD (b.take k) 10 (byteAt b 4) 5 []) := by
    unfold headD
    rw [if_neg (by omega), if_neg (fun e => e.elim (fun e => e ht4) (fun e => by rw [hb4] at e; omega)), hb4]
  rw [hhd, hnc, hPe]
  by_cases hPk : P ≤ k
  · rw [if_pos hPk]
    unfold lastD
    rw [if_neg (by rw [g4]; exact fun h => h rfl), hPe, hlen]
    by_cases h4 : k < P + 4
    · rw [if_pos h4, if_neg (by omega)]
    · rw [if_neg h4, List.take_take, Nat.min_eq_left (by omega), if_neg (by rw [g6]; decide), if_pos (by omega)]
  · rw [if_neg hPk, if_neg (by omega)]
    rfl
/-- The header's error by a fault. -/
theorem head_fault {t : Tr} (h : mayT t = true) {k : Nat} (hk : k < (encL t).length) : headD ((encL t).take k) 10 = if (headL t.names).length ≤ k then (t.names, (headL t.names).length, 0) else ([], 0, 10) := by
  obtain ⟨h1, h2⟩ := (mayT_iff t).1 h
  have he : encL t = headL t.names ++ t.events.flatMap recR := by unfold encL; rw [if_pos h]
  have hd : headD (encL t) 5 = (t.names, (headL t.names).length, 0) := by rw [he]; exact head_enc h1 _ 5
  rw [head_cut10 hk (by rw [hd]), hd]
/-- A record that is right stands ahead of the fault, or is told by the fault. -/
theorem rec_cut {b : List Int} (hb : ∀ z ∈ b, 0 ≤ z ∧ z ≤ 255) {p f : Nat} {props : Int} (hp : 0 ≤ props ∧ props ≤ 64) (h : errR (b.drop p) (propsR props) = 0) (_hpl : p ≤ b.length) (hf : f ≤ b.length) :
    errR (restB b f p) (propsR props) = (if p + (lenR (b.drop p) + 6) ≤ f then 0 else if f ≤ p then 13 else 7) ∧ (p + (lenR (b.drop p) + 6) ≤ f → getE (restB b f p) props = getE (b.drop p) props ∧ getN (restB b f p) props = getN (b.drop p) props) := by
  obtain ⟨g1, g2, g3, g4⟩ := get_ok h
  have hby : ∀ z ∈ b.drop p, 0 ≤ z ∧ z ≤ 255 := fun z hz => hb z (List.mem_of_mem_drop hz)
  have hi := (err_zero h).2.2
  have hpg := (put_get (p := props) hby h).2
  rw [g1, g2] at hpg
  unfold putR at hpg
  rw [if_pos (ids_wide (props_bd props).2 hi), List.nil_append] at hpg
  obtain ⟨e, he⟩ : ∃ e, evR (b.drop p) = e := ⟨_, rfl⟩
  obtain ⟨L, hL⟩ : ∃ L, lenR (b.drop p) + 6 = L := ⟨_, rfl⟩
  rw [he, hL] at hpg
  rw [hL] at g3 g4 ⊢
  rw [he] at hi
  have hsp : b.drop p = recR e ++ (b.drop p).drop L := by rw [hpg, List.take_append_drop]
  have hrl : (recR e).length = L := by rw [hpg, List.length_take]; omega
  have hq : propsR props = props := by unfold propsR; omega
  have hrest : restB b f p = (b.drop p).take (f - p) := by
    unfold restB
    rw [Int.toNat_natCast]
    by_cases hpf : p ≤ f
    · rw [Nat.min_eq_left hpf, List.drop_take]
    · rw [Nat.min_eq_right (by omega), show f - p = 0 by omega, List.take_zero]
      exact List.drop_of_length_le (by rw [List.length_take]; omega)
  rw [hrest]
  by_cases hc : p + L ≤ f
  · rw [if_pos hc]
    have ht := ev_time hby
    have hr2 : (b.drop p).take (f - p) = recR e ++ ((b.drop p).drop L).take (f - p - L) := by
      conv => lhs; rw [hsp]
      rw [List.take_append, List.take_of_length_le (by omega), hrl]
    rw [he] at ht
    obtain ⟨k1, k2, k3⟩ := rec_get hp (by rw [← hq]; exact hi) ht.1 ht.2 (((b.drop p).drop L).take (f - p - L))
    rw [← hr2] at k1 k2 k3
    have k4 := get_ok k1
    refine ⟨k1, fun _ => ⟨?_, ?_⟩⟩
    · rw [k4.1, g1, k2, he]
    · rw [k4.2.1, g2, k3]
      have := rec_len e
      omega
  · rw [if_neg hc]
    refine ⟨?_, fun h => absurd h hc⟩
    have hr2 : (b.drop p).take (f - p) = (recR e).take (f - p) := by
      conv => lhs; rw [hsp]
      rw [List.take_append_of_le_length (by omega)]
    rw [hr2, front_errp hp (by rw [← hq]; exact hi) (by omega)]
    by_cases h0 : f ≤ p
    · rw [if_pos h0, if_pos (by omega)]
    · rw [if_neg h0, if_neg (by omega)]
end Go.Proofs.Ytimbbfneaaglbaa.Scan
