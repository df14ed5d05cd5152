/-
  A log that a fault cuts off, as plain lists (for P12.1, P12.2): the header is told just if it stands ahead of the fault, and so is each record. By an AI agent.
  A record read in parts; a header read part by part: what is read so far tells what the whole does (stage 12). By an AI agent.
  The walk of the landed Record (stage 12). By an AI agent.
-/
import Derived.Test.YtimbbfneaaglbaaGreatGHeadsPlays13
import Derived.Test.YtimbbfneaaglbaaGreatGHeadsPlays31
import Derived.Test.YtimbbfneaaglbaaGreatGHeadsPlays21
import Derived.Test.YtimbbfneaaglbaaGreatGHeadsPlays15
namespace Go.Proofs.YtimbbfneaaglbaaGreat.Scan
open Go.Proofs.YtimbbfneaaglbaaGreat.Ints Go.Proofs.YtimbbfneaaglbaaGreat.SumMath Go.Proofs.YtimbbfneaaglbaaGreat.SumWalks Go.Proofs.YtimbbfneaaglbaaGreat.Trace Go.Proofs.YtimbbfneaaglbaaGreat.Record Go.Proofs.YtimbbfneaaglbaaGreat.Log
open Go.Proofs.YtimbbfneaaglbaaGreat.Lex (nameS)

theorem byte_take {b : List Int} {k p : Nat} (h : p < k) : byteAt (b.take k) p = byteAt b p := by unfold byteAt; rw [List.getElem?_take_of_lt h]
/-- Names that are right, cut off at a place. -/
theorem names_cut {b : List Int} {k : Nat} (hk : k ≤ b.length) : ∀ (cnt p : Nat) (acc : List (List UInt8)), (∀ s ∈ acc, nameS s = true) → acc.Nodup → p ≤ k → (namesD b 5 cnt p acc).2.2 = 0 →
    namesD (b.take k) 10 cnt p acc = if (namesD b 5 cnt p acc).2.1 ≤ k then namesD b 5 cnt p acc else ([], 0, 10) := by
  have hlen : (b.take k).length = k := by rw [List.length_take]; omega
  intro cnt
  induction cnt with
  | zero =>
    intro p acc _ _ hp _
    rw [namesD_zero, namesD_zero, if_pos hp]
  | succ cnt ih =>
    intro p acc ha hn hp h
    by_cases e1 : b.length ≤ p
    · rw [namesD_end cnt e1] at h
      exact absurd h (by decide)
    by_cases e2 : byteAt b p < 1 ∨ 16 < byteAt b p
    · rw [namesD_len cnt e1 e2] at h
      exact absurd h (by decide)
    by_cases e3 : b.length < p + 1 + byteAt b p
    · rw [namesD_short cnt e1 e2 e3] at h
      exact absurd h (by decide)
    obtain ⟨s, hs⟩ : ∃ s, toU ((b.drop (p + 1)).take (byteAt b p)) = s := ⟨_, rfl⟩
    by_cases e4 : nameS s = false ∨ s ∈ acc
    · rw [namesD_none cnt e1 e2 e3 hs e4] at h
      exact absurd h (by decide)
    have e5 : nameS s = true := by
      rcases hh : nameS s
      · exact absurd (Or.inl hh) e4
      · rfl
    have e6 : s ∉ acc := fun hh => e4 (Or.inr hh)
    rw [namesD_next cnt e1 e2 e3 hs e5 e6] at h ⊢
    have ha2 : ∀ x ∈ acc ++ [s], nameS x = true := fun x hx => (List.mem_append.1 hx).elim (ha x) (fun h => by rw [List.mem_singleton.1 h]; exact e5)
    have hn2 : (acc ++ [s]).Nodup := List.nodup_append.2 ⟨hn, by simp, fun x hx y hy => by rw [List.mem_singleton.1 hy]; exact fun e => e6 (e ▸ hx)⟩
    have hP := ((namesD_inv (b := b) (miss := 5) (by decide) cnt (p + 1 + byteAt b p) (acc ++ [s]) ha2 hn2).1 h).1
    by_cases hpk : k ≤ p
    · rw [namesD_end cnt (by rw [hlen]; exact hpk), if_neg (by omega)]
    have hb := byte_take (b := b) (show p < k by omega)
    by_cases hsh : k < p + 1 + byteAt b p
    · rw [namesD_short cnt (by rw [hlen]; exact hpk) (by rw [hb]; exact e2) (by rw [hlen, hb]; exact hsh), if_neg (by omega)]
    have hs2 : toU (((b.take k).drop (p + 1)).take (byteAt (b.take k) p)) = s := by
      rw [hb, List.drop_take, List.take_take, Nat.min_eq_left (by omega)]
      exact hs
    have hnx := namesD_next (b := b.take k) (miss := 10) cnt (by rw [hlen]; exact hpk) (by rw [hb]; exact e2) (by rw [hlen, hb]; exact hsh) hs2 e5 e6
    rw [hnx, hb]
    exact ih _ _ ha2 hn2 (by omega) h
/-- A header that is right, cut off at a place, by a fault. -/
theorem head_cut10 {b : List Int} {k : Nat} (hk : k < b.length) (h : (headD b 5).2.2 = 0) : headD (b.take k) 10 = if (headD b 5).2.1 ≤ k then headD b 5 else ([], 0, 10) := by
  obtain ⟨g1, g2, g3, g4, g5, g6, g7⟩ := headD_ok (by decide) h
  have hlen : (b.take k).length = k := by rw [List.length_take]; omega
  have hP := ((namesD_inv (b := b) (miss := 5) (by decide) (byteAt b 4) 5 [] (fun s hs => by cases hs) List.nodup_nil).1 g4).1
  obtain ⟨P, hPe⟩ : ∃ P, (namesD b 5 (byteAt b 4) 5 []).2.1 = P := ⟨_, rfl⟩
  rw [g7]
  rw [hPe] at hP g5 g6 ⊢
  show headD (b.take k) 10 = if P + 4 ≤ k then _ else _
  by_cases h5 : k < 5
  · rw [if_neg (by omega)]
    unfold headD
    rw [if_pos (by omega)]
  have hb4 := byte_take (b := b) (show 4 < k by omega)
  have ht4 : (b.take k).take 4 = [87, 71, 76, 1] := by rw [List.take_take, Nat.min_eq_left (by omega)]; exact g2
  have hnc := names_cut (k := k) (by omega) (byteAt b 4) 5 [] (fun s hs => by cases hs) List.nodup_nil (by omega) g4
  have hhd : headD (b.take k) 10 = lastD (b.take k) 10 (namesD (b.take k) 10 (byteAt b 4) 5 []) := by
    unfold headD
    rw [if_neg (by omega), if_neg (fun e => e.elim (fun e => e ht4) (fun e => by rw [hb4] at e; omega)), hb4]
  rw [hhd, hnc, hPe]
  by_cases hPk : P ≤ k
  · rw [if_pos hPk]
    unfold lastD
    rw [if_neg (by rw [g4]; exact fun h => h rfl), hPe, hlen]
    by_cases h4 : k < P + 4
    · rw [if_pos h4, if_neg (by omega)]
    · rw [if_neg h4, List.take_take, Nat.min_eq_left (by omega), if_neg (by rw [g6]; decide), if_pos (by omega)]
  · rw [if_neg hPk, if_neg (by omega)]
    rfl
/-- The header's error by a fault. -/
theorem head_fault {t : Tr} (h : mayT t = true) {k : Nat} (hk : k < (encL t).length) : headD ((encL t).take k) 10 = if (headL t.names).length ≤ k then (t.names, (headL t.names).length, 0) else ([], 0, 10) := by
  obtain ⟨h1, h2⟩ := (mayT_iff t).1 h
  have he : encL t = headL t.names ++ t.events.flatMap recR := by unfold encL; rw [if_pos h]
  have hd : headD (encL t) 5 = (t.names, (headL t.names).length, 0) := by rw [he]; exact head_enc h1 _ 5
  rw [head_cut10 hk (by rw [hd]), hd]
/-- A record that is right stands ahead of the fault, or is told by the fault. -/
theorem rec_cut {b : List Int} (hb : ∀ z ∈ b, 0 ≤ z ∧ z ≤ 255) {p f : Nat} {props : Int} (hp : 0 ≤ props ∧ props ≤ 64) (h : errR (b.drop p) (propsR props) = 0) (_hpl : p ≤ b.length) (hf : f ≤ b.length) :
    errR (restB b f p) (propsR props) = (if p + (lenR (b.drop p) + 6) ≤ f then 0 else if f ≤ p then 13 else 7) ∧ (p + (lenR (b.drop p) + 6) ≤ f → getE (restB b f p) props = getE (b.drop p) props ∧ getN (restB b f p) props = getN (b.drop p) props) := by
  obtain ⟨g1, g2, g3, g4⟩ := get_ok h
  have hby : ∀ z ∈ b.drop p, 0 ≤ z ∧ z ≤ 255 := fun z hz => hb z (List.mem_of_mem_drop hz)
  have hi := (err_zero h).2.2
  have hpg := (put_get (p := props) hby h).2
  rw [g1, g2] at hpg
  unfold putR at hpg
  rw [if_pos (ids_wide (props_bd props).2 hi), List.nil_append] at hpg
  obtain ⟨e, he⟩ : ∃ e, evR (b.drop p) = e := ⟨_, rfl⟩
  obtain ⟨L, hL⟩ : ∃ L, lenR (b.drop p) + 6 = L := ⟨_, rfl⟩
  rw [he, hL] at hpg
  rw [hL] at g3 g4 ⊢
  rw [he] at hi
  have hsp : b.drop p = recR e ++ (b.drop p).drop L := by rw [hpg, List.take_append_drop]
  have hrl : (recR e).length = L := by rw [hpg, List.length_take]; omega
  have hq : propsR props = props := by unfold propsR; omega
  have hrest : restB b f p = (b.drop p).take (f - p) := by
    unfold restB
    rw [Int.toNat_natCast]
    by_cases hpf : p ≤ f
    · rw [Nat.min_eq_left hpf, List.drop_take]
    · rw [Nat.min_eq_right (by omega), show f - p = 0 by omega, List.take_zero]
      exact List.drop_of_length_le (by rw [List.length_take]; omega)
  rw [hrest]
  by_cases hc : p + L ≤ f
  · rw [if_pos hc]
    have ht := ev_time hby
    have hr2 : (b.drop p).take (f - p) = recR e ++ ((b.drop p).drop L).take (f - p - L) := by
      conv => lhs; rw [hsp]
      rw [List.take_append, List.take_of_length_le (by omega), hrl]
    rw [he] at ht
    obtain ⟨k1, k2, k3⟩ := rec_get hp (by rw [← hq]; exact hi) ht.1 ht.2 (((b.drop p).drop L).take (f - p - L))
    rw [← hr2] at k1 k2 k3
    have k4 := get_ok k1
    refine ⟨k1, fun _ => ⟨?_, ?_⟩⟩
    · rw [k4.1, g1, k2, he]
    · rw [k4.2.1, g2, k3]
      have := rec_len e
      omega
  · rw [if_neg hc]
    refine ⟨?_, fun h => absurd h hc⟩
    have hr2 : (b.drop p).take (f - p) = (recR e).take (f - p) := by
      conv => lhs; rw [hsp]
      rw [List.take_append_of_le_length (by omega)]
    rw [hr2, front_errp hp (by rw [← hq]; exact hi) (by omega)]
    by_cases h0 : f ≤ p
    · rw [if_pos h0, if_pos (by omega)]
    · rw [if_neg h0, if_neg (by omega)]
end Go.Proofs.YtimbbfneaaglbaaGreat.Scan

namespace Go.Proofs.YtimbbfneaaglbaaGreat.Scan
open Go.RowKit Go.Proofs.YtimbbfneaaglbaaGreat.Ints Go.Proofs.YtimbbfneaaglbaaGreat.Mem Go.Proofs.YtimbbfneaaglbaaGreat.SumMath Go.Proofs.YtimbbfneaaglbaaGreat.SumWalks Go.Proofs.YtimbbfneaaglbaaGreat.Trace Go.Proofs.YtimbbfneaaglbaaGreat.Record Go.Proofs.YtimbbfneaaglbaaGreat.Log Go.Proofs.YtimbbfneaaglbaaGreat.Src Go.Proofs.YtimbbfneaaglbaaGreat.Lex

/-! ### records -/
theorem rec_front {x : List Int} {k : Nat} {q : Int} (h1 : errR (x.take k) q ≠ 13) (h2 : errR (x.take k) q ≠ 7) :
    errR x q = errR (x.take k) q ∧ lenR x = lenR (x.take k) ∧ (errR x q = 0 → evR x = evR (x.take k)) ∧ 0 < k := by
  have hlen : (x.take k).length = min k x.length := List.length_take
  have n13 : sizeE (x.take k) q ≠ 13 := fun e => h1 (by unfold errR; rw [if_pos (by omega)]; exact e)
  have n7 : sizeE (x.take k) q ≠ 7 := fun e => h2 (by unfold errR; rw [if_pos (by omega)]; exact e)
  have c0 : (x.take k).length ≠ 0 := fun e => n13 (by unfold sizeE; rw [if_pos e])
  have c1 : (x.take k).length ≠ 1 := fun e => n7 (by unfold sizeE; rw [if_neg c0, if_pos e])
  have hk : 2 ≤ k := by omega
  have hL : lenR (x.take k) = lenR x := lenR_take hk
  refine ⟨?_, hL.symm, ?_, by omega⟩
  all_goals
    by_cases hs : (lenR x : Int) < 8 ∨ (lenR x : Int) > 8 + q
    · have e1 : sizeE (x.take k) q = 2 := by unfold sizeE; rw [if_neg c0, if_neg c1, hL, if_pos hs]
      have e2 : sizeE x q = 2 := by unfold sizeE; rw [if_neg (by omega), if_neg (by omega), if_pos hs]
      have e3 : errR x q = 2 := by unfold errR; rw [e2]; rfl
      have e4 : errR (x.take k) q = 2 := by unfold errR; rw [e1]; rfl
      first
        | rw [e3, e4]
        | (intro e; rw [e3] at e; cases e)
    · have hfit : ¬ (x.take k).length < lenR x + 6 := fun e => n7 (by unfold sizeE; rw [if_neg c0, if_neg c1, hL, if_neg hs, if_pos e])
      have e1 : sizeE (x.take k) q = 0 := by unfold sizeE; rw [if_neg c0, if_neg c1, hL, if_neg hs, if_neg hfit]
      have e2 : sizeE x q = 0 := by unfold sizeE; rw [if_neg (by omega), if_neg (by omega), if_neg hs, if_neg (by omega)]
      have e3 : (x.take k).take (lenR x + 6) = x.take (lenR x + 6) := by rw [List.take_take, Nat.min_eq_left (by omega)]
      have e4 : evR (x.take k) = evR x := by
        have t1 : ((x.take k).drop 2).take 8 = (x.drop 2).take 8 := by rw [List.drop_take, List.take_take, Nat.min_eq_left (by omega)]
        have t2 : ((x.take k).drop 10).take (lenR x - 8) = (x.drop 10).take (lenR x - 8) := by rw [List.drop_take, List.take_take, Nat.min_eq_left (by omega)]
        unfold evR
        rw [hL, t1, t2]
      first
        | (unfold errR; rw [e1, e2, hL, e3, e4])
        | (intro _; exact e4.symm)
theorem rec_room {y : List Int} {q : Int} (h : errR y q = 13 ∨ errR y q = 7) (hq : 0 ≤ q ∧ q ≤ 64) : y.length < 78 := by
  by_cases hc : y.length < 78
  · exact hc
  · exfalso
    by_cases hs : (lenR y : Int) < 8 ∨ (lenR y : Int) > 8 + q
    · have e2 : sizeE y q = 2 := by unfold sizeE; rw [if_neg (by omega), if_neg (by omega), if_pos hs]
      have e3 : errR y q = 2 := by unfold errR; rw [e2]; rfl
      omega
    · have e2 : sizeE y q = 0 := by unfold sizeE; rw [if_neg (by omega), if_neg (by omega), if_neg hs, if_neg (by omega)]
      unfold errR at h
      rw [e2, if_neg (by simp)] at h
      revert h
      repeat' split
      all_goals simp
theorem err_nil (q : Int) : errR [] q = 13 := rfl
theorem rest_len (b : List Int) (f : Nat) (p : Int) (hf : f ≤ b.length) : (restB b f p).length = f - p.toNat := by
  unfold restB
  rw [List.length_drop, List.length_take]
  omega
/-- What was read is enough. -/
theorem scan_done {b : List Int} {f k : Nat} {p props : Int} (hp : 0 < k → 0 ≤ p ∧ p < b.length) {n : Nat} (he : errR ((restB b f p).take k) (propsR props) = n) (h1 : n ≠ 13) (h2 : n ≠ 7) :
    scanE b f p props = n ∧ scanV b f p props = getE ((restB b f p).take k) props ∧ scanN b f p props = (if n = 0 then p.toNat + getN ((restB b f p).take k) props else 0) ∧ 0 ≤ p ∧ p < b.length := by
  obtain ⟨e1, e2, e3, e4⟩ := rec_front (x := restB b f p) (k := k) (q := propsR props) (by rw [he]; exact h1) (by rw [he]; exact h2)
  obtain ⟨p1, p2⟩ := hp e4
  rw [he] at e1
  have hE : scanE b f p props = n := by
    unfold scanE
    rw [if_neg (by omega), if_neg (by omega), e1, if_neg (by omega)]
  refine ⟨hE, ?_, ?_, p1, p2⟩
  · unfold scanV getE
    rw [hE, he, e1]
    by_cases h0 : n = 0
    · rw [if_pos h0, if_pos h0, if_pos h0, e3 (by rw [e1]; exact h0)]
    · rw [if_neg h0, if_neg h0]
  · unfold scanN getN
    rw [hE, he, e1, e2]
/-- There is no more to read. -/
theorem scan_stop {b : List Int} {f k n : Nat} {p props m : Int} (hf : f ≤ b.length) (hk : k ≤ (restB b f p).length) (hp : 0 < k → 0 ≤ p ∧ p < b.length) (he : errR ((restB b f p).take k) (propsR props) = n) (hn : n = 13 ∨ n = 7) (hm : 1 ≤ m) {r : Nat} (hr : readE b.length f (p + k) m = r) (hr0 : r ≠ 0) :
    scanE b f p props = (if r = 13 then n else r) := by
  have hrl := rest_len b f p hf
  unfold readE at hr
  by_cases c1 : p + k < 0
  · have hp0 : p < 0 := by omega
    rw [if_pos (.inl c1)] at hr
    subst hr
    unfold scanE
    rw [if_pos hp0]
    rfl
  · rw [if_neg (by omega)] at hr
    have p0 : 0 ≤ p := by
      rcases Nat.eq_zero_or_pos k with h0 | h0
      · subst h0; omega
      · exact (hp h0).1
    by_cases c2 : (b.length : Int) ≤ p + k
    · rw [if_pos c2] at hr
      subst hr
      rw [if_pos rfl]
      rcases Nat.eq_zero_or_pos k with h0 | h0
      · subst h0
        rw [List.take_zero, err_nil] at he
        unfold scanE
        rw [if_neg (by omega), if_pos (by omega)]
        exact he
      · have := hp h0
        have hkx : (restB b f p).take k = restB b f p := List.take_of_length_le (by omega)
        rw [hkx] at he
        unfold scanE
        rw [if_neg (by omega), if_neg (by omega), if_neg (by omega)]
        exact he
    · rw [if_neg c2] at hr
      by_cases c3 : (f : Int) ≤ p + k
      · rw [if_pos c3] at hr
        subst hr
        have hkx : (restB b f p).take k = restB b f p := List.take_of_length_le (by omega)
        rw [hkx] at he
        unfold scanE
        rw [if_neg (by omega), if_neg (by omega), if_pos ⟨by omega, by omega⟩]
        rfl
      · rw [if_neg c3] at hr
        exact absurd hr.symm hr0
/-- There is more to read. -/
theorem scan_more {b : List Int} {f k : Nat} (sc : List Int) (N : Nat) {p m : Int} (hf : f ≤ b.length) (hk : k ≤ (restB b f p).length) (hp : 0 < k → 0 ≤ p ∧ p < b.length) (hr : readE b.length f (p + k) m = 0) :
    ∃ d, (readL b f sc N (p + k) m).length = d ∧ (restB b f p).take k ++ readL b f sc N (p + k) m = (restB b f p).take (k + d) ∧ k + d ≤ (restB b f p).length ∧ 1 ≤ d ∧ (d : Int) ≤ m ∧ 0 ≤ p ∧ p < b.length := by
  have hrl := rest_len b f p hf
  have hlen := readL_len sc N hf hr
  obtain ⟨k1, k2, -, k4⟩ := readK_bd sc N hf hr
  obtain ⟨z1, -, z3, z4⟩ := read_zero hr
  have hL : readL b f sc N (p + k) m = (b.drop (p + k).toNat).take (readK f sc N (p + k) m) := by unfold readL; rw [if_pos hr]
  obtain ⟨d, hd⟩ : ∃ d, readK f sc N (p + k) m = d := ⟨_, rfl⟩
  rw [hd] at hL hlen k1 k2 k4
  have p0 : 0 ≤ p := by
    rcases Nat.eq_zero_or_pos k with h0 | h0
    · subst h0; omega
    · exact (hp h0).1
  refine ⟨d, hlen, ?_, by omega, k1, k4, p0, by omega⟩
  rw [hL]
  unfold restB
  rw [show min p.toNat f = p.toNat by omega, show (p + k).toNat = p.toNat + k by omega, List.take_add, List.drop_drop]
  congr 1
  rw [show p.toNat + k = p.toNat + k from rfl, List.drop_take, List.take_take, Nat.min_eq_left (by omega)]
end Go.Proofs.YtimbbfneaaglbaaGreat.Scan

namespace Go.Proofs.YtimbbfneaaglbaaGreat.Scan
open Go.RowKit Go.Proofs.YtimbbfneaaglbaaGreat.Ints Go.Proofs.YtimbbfneaaglbaaGreat.Mem Go.Proofs.YtimbbfneaaglbaaGreat.SumMath Go.Proofs.YtimbbfneaaglbaaGreat.SumWalks Go.Proofs.YtimbbfneaaglbaaGreat.Trace Go.Proofs.YtimbbfneaaglbaaGreat.Record Go.Proofs.YtimbbfneaaglbaaGreat.Log Go.Proofs.YtimbbfneaaglbaaGreat.Src

/-- What a source's slices read as lies in blocks that are there. -/
theorem lsrc_low {S : Nat → Prop} {w : World} {g : Nat} {bs sc : List Int} {f N : Nat} (h : LSrc S w g bs sc f N) : LSrc (fun q => S q ∧ q < w.heap.size) w g bs sc f N := by
  obtain ⟨A, c, B, d, h1, h2, h3, h4, h5, h6, h7, h8⟩ := h.ex
  exact ⟨⟨A, c, B, d, h1, h2, h3, h4, h5, h6, fun a e h0 => ⟨h7 a e h0, rd_lt h2 a e h0⟩, fun a e h0 => ⟨h8 a e h0, rd_lt h5 a e h0⟩⟩, fun e => h.ne e.1, h.le⟩
theorem lsrc_bytes {S : Nat → Prop} {w : World} {g : Nat} {bs sc : List Int} {f N : Nat} (h : LSrc S w g bs sc f N) : ∀ z ∈ bs.take f, (Lit.int .u8 z).wf = true := by
  obtain ⟨A, c, B, d, h1, h2, -⟩ := h.ex
  exact h2.all
/-- What another row is stored into leaves a row of the call's own. -/
theorem row_apart {w w' : World} {base g : Nat} {e : TypeId} {size : Nat} {v : Value} {n : Nat} {xs : List Value} (h : w.ownsRow base e size v n xs) (hg : w.grownBy w' (some g)) (hb : g < base) : w'.ownsRow base e size v n xs := by
  refine h.kept hg ?_
  by_cases hv : v.ownBlock = none
  · exact .inl hv
  · refine .inr fun e2 => ?_
    have := (h.lt g e2).1
    omega
theorem src_box {S : Nat → Prop} {w0 W : World} {g : Nat} {bs sc : List Int} {f N : Nat} (h : LSrc (fun q => S q ∧ q < w0.heap.size) W g bs sc f N) (hg : g < w0.heap.size) (o : Nat) (u : Value) : LSrc (fun q => S q ∧ q < w0.heap.size) (W.setCell ⟨w0.heap.size, o, none⟩ u) g bs sc f N :=
  h.kept (row := some w0.heap.size) (grown_cell W ⟨w0.heap.size, o, none⟩ u) (fun e => by injection e with e; omega) (fun q hq e => by injection e with e; have := hq.2; omega)
theorem grown_box {w W : World} {row : Option Nat} (h : w.grownBy W row) (o : Nat) (u : Value) : w.grownBy (W.setCell ⟨w.heap.size, o, none⟩ u) row :=
  ⟨h.os, h.tape, h.output, by have := h.size; simpa using this, fun q hq hne => (Below.heap_setCell W ⟨w.heap.size, o, none⟩ u q (Nat.ne_of_lt hq)).trans (h.block q hq hne)⟩
theorem src_row {S : Nat → Prop} {w0 W W' : World} {g : Nat} {bs sc : List Int} {f N : Nat} {vb : Option Nat} (h : LSrc (fun q => S q ∧ q < w0.heap.size) W g bs sc f N) (hg : g < w0.heap.size) (hgr : W.grownBy W' vb) (hv : ∀ q, vb = some q → w0.heap.size < q) : LSrc (fun q => S q ∧ q < w0.heap.size) W' g bs sc f N :=
  h.kept hgr (fun e => by have := hv g e.symm; omega) (fun q hq e => by have := hv q e.symm; have := hq.2; omega)
theorem grown_row {w W W' : World} {row vb : Option Nat} (h : w.grownBy W row) (hgr : W.grownBy W' vb) (hv : ∀ q, vb = some q → w.heap.size < q) : w.grownBy W' row :=
  ⟨hgr.os.trans h.os, hgr.tape.trans h.tape, hgr.output.trans h.output, Nat.le_trans h.size hgr.size, fun q hq hne => (hgr.block q (Nat.lt_of_lt_of_le hq h.size) (fun e => by have := hv q e.symm; omega)).trans (h.block q hq hne)⟩

set_option maxHeartbeats 8000000 in
set_option maxRecDepth 100000 in
theorem landRec : RecC 140737488357232 := by
  intro S g b sc f N p props w hs hN hp hM
  have q63 : maxLen = 9223372036854775807 := rfl
  obtain ⟨hp1, hp2⟩ := hp
  obtain ⟨i0, hi, hz0, hz1, hz2⟩ := info_parts infoB
  have hf := hs.le
  have hglt := hs.lt
  have hS := lsrc_low hs
  have HUP := Lib.hid (fun (W : World) (M : Nat) (h : LSrc (fun q => S q ∧ q < w.heap.size) W g b sc f M) => h.mono (fun _ e => e.1) hs.ne)
  have HBY := Lib.hid (show ∀ z ∈ restB b f p, (Lit.int .u8 z).wf = true from fun z hz => lsrc_bytes hs z (List.mem_of_mem_drop hz))
  have hpb := props_bd props
  have hrl := rest_len b f p hf
  have hal1 := (Below.refl _ w).alloc (Nat.le_refl _) (.cells #[.int .u64 0, .slice none 0 0] 38)
  have hb1 := Blk.new w #[.int .u64 0, .slice none 0 0] 38 [.int .u64 0, .slice none 0 0] rfl
  have hsz1 : (w.alloc (.cells #[.int .u64 0, .slice none 0 0] 38)).heap.size = w.heap.size + 1 := by simp
  have hal2 := hal1.alloc (hal1.size) (.cells #[] 5)
  have HS2 := Lib.hid (hS.below hal2)
  have HB2 := Lib.hid (hb1.alloc (.cells #[] 5))
  have HG2 := Lib.hid (grown_below hal2 (some g))
  have HR2 := Lib.hid (own_lit (w.alloc (.cells #[.int .u64 0, .slice none 0 0] 38)) (w.heap.size + 1) 5 .u8 [] 0 rfl (by decide) (by rw [hsz1]; exact Nat.le_refl _))
  clear hs hS hal1 hb1 hal2
  go_enter Tryz.func96, Tryz.ntmps96
  go_wp2_with fail
  go_loopw [9] (fun v wr => ∃ k N' : Nat, k ≤ (restB b f p).length ∧ k ≤ 78 ∧ wr.ownsRow (w.heap.size + 1) 5 1 v k (((restB b f p).take k).map (Value.int .u8)) ∧ LSrc (fun q => S q ∧ q < w.heap.size) wr g b sc f N' ∧ N' ≤ N + k ∧ w.grownBy wr (some g) ∧ Blk wr w.heap.size [.int .u64 0, .slice none 0 0] ∧ (0 < k → 0 ≤ p ∧ p < b.length)) (fun v _ => (restB b f p).length - (match v with | .slice _ m _ => m | _ => 0))
  case atStart => exact ⟨0, N, Nat.zero_le _, by omega, by rw [List.take_zero]; rw [← hsz1]; simpa using HR2.out, HS2.out, by omega, HG2.out, HB2.out, fun h => absurd h (by omega)⟩
  case round =>
    obtain ⟨k, N', hk, hk78, hrow, hsr, hN', hgr, hbk, hkp⟩ := hrel
    obtain ⟨A, c, rfl, hkc, hcm, -, hAb⟩ := own_slice hrow
    have hwf : ∀ z ∈ (restB b f p).take k, (Lit.int .u8 z).wf = true := fun z hz => HBY.out z (List.mem_of_mem_take hz)
    have FG := landGet A k c ((restB b f p).take k) props wr hkc hcm (Rd.own hrow hwf)
    unfold GotGet at FG
    have HDONE := Lib.hid (fun n h1 h2 h3 => scan_done (b := b) (f := f) (k := k) (p := p) (props := props) hkp (n := n) h1 h2 h3)
    have HSTOP := Lib.hid (fun n m r h1 h2 h3 h4 h5 => scan_stop (b := b) (f := f) (k := k) (p := p) (props := props) hf hk hkp (n := n) (m := m) h1 h2 h3 (r := r) h4 h5)
    have HMORE := Lib.hid (fun N m h1 => scan_more (b := b) (f := f) (k := k) sc N (p := p) (m := m) hf hk hkp h1)
    obtain ⟨ys, hys⟩ : ∃ ys, (restB b f p).take k = ys := ⟨_, rfl⟩
    have hyl : ys.length = k := by rw [← hys, List.length_take]; omega
    rw [hys] at hrow hwf FG
    obtain ⟨x, hx⟩ : ∃ x, getE ys props = x := ⟨_, rfl⟩
    obtain ⟨m, hm⟩ : ∃ m, getN ys props = m := ⟨_, rfl⟩
    obtain ⟨er, her⟩ : ∃ er, errR ys (propsR props) = er := ⟨_, rfl⟩
    have hmk : m ≤ k := by
      rw [← hm]
      unfold getN
      split
      · rename_i h0
        have := (size_zero (err_zero h0).1).2.2.2
        omega
      · omega
    have hroom : er = 13 ∨ er = 7 → k < 78 := fun h => by have := rec_room (y := ys) (q := propsR props) (by rw [her]; exact h) hpb; omega
    rw [hx, hm, her] at FG
    have HX := Lib.hid hx
    have HM := Lib.hid hm
    have HER := Lib.hid her
    have HYS := Lib.hid hys
    have HG := Lib.hid FG
    have HSR := Lib.hid hsr
    have HGR := Lib.hid hgr
    have HBK := Lib.hid hbk
    have HRW := Lib.hid hrow
    have hpk1 : p + (k : Int) ≤ 9223372036854775807 := by
      rcases Nat.eq_zero_or_pos k with h0 | h0
      · subst h0; omega
      · have := hkp h0; omega
    have hpk2 : -9223372036854775808 ≤ p + (k : Int) := by omega
    have hpm1 : er = 0 → p + (m : Int) ≤ 9223372036854775807 := fun _ => by omega
    clear FG hx hm her hys hrow hsr hgr hbk
    go_wp2_with fail
    refine HG.out.mono ?_
    rintro e w1 ⟨K, ck, rfl, hok, hB1, hfar⟩
    have hal := (Below.refl _ w1).alloc (Nat.le_refl _) (.cells #[.int .u64 x.time, .slice K x.ids.length ck] 38)
    have hB2 := hB1.trans (hal.mono hB1.size)
    have hx2 := Blk.new w1 #[.int .u64 x.time, .slice K x.ids.length ck] 38 [.int .u64 x.time, .slice K x.ids.length ck] rfl
    have HO2 := Lib.hid (hok.below hal)
    have hbk2 := HBK.out.later hB2
    have HS2 := Lib.hid (HSR.out.below hB2)
    have HG2 := Lib.hid (grown_trans HGR.out (grown_below hB2 (some g)))
    have HR2 := Lib.hid (below_row HRW.out hB2)
    have hwr : w.heap.size < wr.heap.size := HBK.out.1
    have HFR := Lib.hid (show ∀ a, K = some a → w.heap.size < a.block from fun a e => by have h1 := hfar a e; omega)
    have hg1 : w.heap.size < w1.heap.size := by have := hB1.size; omega
    obtain ⟨w2, hw2⟩ : ∃ w2, w1.alloc (.cells #[.int .u64 x.time, .slice K x.ids.length ck] 38) = w2 := ⟨_, rfl⟩
    obtain ⟨g1, hgg1⟩ : ∃ g1, w1.heap.size = g1 := ⟨_, rfl⟩
    rw [hw2] at hx2 HO2 hbk2 HS2 HG2 HR2
    rw [hgg1] at hx2 hg1
    have s0 := hbk2.cell 0 rfl
    have s1 := hbk2.cell 1 rfl
    have t0 := hbk2.fz 0 rfl
    have t1 := hbk2.fz 1 rfl
    have v0 := hx2.cell 0 rfl
    have v1 := hx2.cell 1 rfl
    have HBK2 := Lib.hid hbk2
    clear hal hB1 hB2 hx2 hok hbk2 HSR HGR HRW HBK HG hfar
    by_cases he0 : er = 0
    · have hpm := hpm1 he0
      obtain ⟨hE, hV, hNN, hp0, hpb2⟩ := HDONE.out er (by rw [HYS.out]; exact HER.out) (by omega) (by omega)
      rw [HYS.out, HX.out] at hV
      rw [if_pos he0, HYS.out, HM.out] at hNN
      subst he0
      have HE := Lib.hid hE
      have HV := Lib.hid hV
      have HNN := Lib.hid hNN
      have hpm3 : -9223372036854775808 ≤ p + (m : Int) := by omega
      have HPM := Lib.hid (show ((p.toNat + m : Nat) : Int) = p + (m : Int) by omega)
      have u := HBK2.out.set 0 (.int .u64 x.time) (by simp)
      have u0 := u.cell 0 rfl
      have u1 := (u.set 1 (.slice K x.ids.length ck) (by simp)).cell 1 rfl
      clear u hE hV hNN
      go_wp2_with fail
      refine bodyPost_ret (v := .tuple #[.agg #[.int .u64 x.time, .slice K x.ids.length ck], .int .i64 (p + (m : Int)), .int .i64 0]) (by simp [results, Tryz.results96, go_sem, u0, u1]) rfl ?_
      unfold GotRecS
      rw [HV.out, HNN.out, HE.out]
      exact ⟨K, ck, N', by rw [HPM.out]; rfl, evok_set HO2.out (fun a e => by have := HFR.out a e; omega) _ _, HUP.out _ _ (src_box (src_box HS2.out hglt _ _) hglt _ _), by omega, grown_box (grown_box HG2.out _ _) _ _, fun a e => Nat.le_of_lt (HFR.out a e)⟩
    have he0' : ((er : Int) == 0) = false := by simp; omega
    by_cases h13 : er = 13 ∨ er = 7
    rotate_left
    · obtain ⟨hE, hV, hNN, hp0, hpb2⟩ := HDONE.out er (by rw [HYS.out]; exact HER.out) (by omega) (by omega)
      have HE := Lib.hid hE
      have h13' : ((er : Int) == 13) = false := by simp; omega
      have h7' : ((er : Int) == 7) = false := by simp; omega
      have HV := Lib.hid (show scanV b f p props = noEv by unfold scanV; rw [hE, if_neg he0])
      have HNN := Lib.hid (show scanN b f p props = 0 by unfold scanN; rw [hE, if_neg he0])
      have u := HBK2.out.set 0 (.int .u64 0) (by simp)
      have u0 := u.cell 0 rfl
      have u1 := (u.set 1 (.slice none 0 0) (by simp)).cell 1 rfl
      clear u hE hV hNN
      go_wp2_with fail
      refine bodyPost_ret (v := .tuple #[.agg #[.int .u64 0, .slice none 0 0], .int .i64 0, .int .i64 (er : Nat)]) (by simp [results, Tryz.results96, go_sem, u0, u1]) rfl ?_
      unfold GotRecS
      rw [HV.out, HNN.out, HE.out]
      exact ⟨none, 0, N', rfl, no_ok _, HUP.out _ _ (src_box (src_box HS2.out hglt _ _) hglt _ _), by omega, grown_box (grown_box HG2.out _ _) _ _, fun a e => by cases e⟩
    have hk7 := hroom h13
    have hk8 : (1 : Int) ≤ 78 - (k : Int) := by omega
    have FR := landRead (fun q => S q ∧ q < w.heap.size) g b sc f N' (p + (k : Int)) (78 - (k : Int)) w2 HS2.out (by omega) ⟨hpk2, hpk1⟩ ⟨by omega, by omega⟩ (by omega)
    have HST := Lib.hid (fun r h4 h5 => HSTOP.out er (78 - (k : Int)) r (by rw [HYS.out]; exact HER.out) h13 hk8 h4 h5)
    have HMO := Lib.hid (HMORE.out N' (78 - (k : Int)))
    obtain ⟨r, hr⟩ : ∃ r, readE b.length f (p + (k : Int)) (78 - (k : Int)) = r := ⟨_, rfl⟩
    rw [hr] at FR
    have HFR2 := Lib.hid FR
    have HRR := Lib.hid hr
    have hc : ((er : Int) == 13) = true ∨ ((er : Int) == 13) = false ∧ ((er : Int) == 7) = true := by rcases h13 with h | h <;> (rw [h]; simp)
    clear FR hr HDONE HSTOP HMORE
    rcases hc with c1 | ⟨c1, c2⟩
    all_goals
      go_wp2_with fail
      refine HFR2.out.mono ?_
      rintro e w3 ⟨v3, rfl, hown3, hs3, hgr3⟩
      have HG3 := Lib.hid (grown_trans HG2.out hgr3)
      have HS3 := Lib.hid hs3
      have HR3 := Lib.hid (row_apart HR2.out hgr3 (by omega))
      have HBK3 := Lib.hid (HBK2.out.grown hgr3 (fun e => by injection e with e; omega))
      have HO3 := Lib.hid hown3
      have hsz3 := hgr3.size
      clear hown3 hs3 hgr3 s0 s1 t0 t1 v0 v1 HFR2
      by_cases hr0 : r = 0
      · subst hr0
        obtain ⟨d, hd, happ, hkd, hd1, hd2, hp0, hpb2⟩ := HMO.out HRR.out
        rw [HYS.out] at happ
        obtain ⟨A3, c3, rfl, -, -, -, -⟩ := own_slice HO3.out
        have HRM := Lib.hid (Rd.own HO3.out (fun z hz => HBY.out z (List.mem_of_mem_take (by rw [← happ]; exact List.mem_append_right _ hz))))
        have HAPP := Lib.hid happ
        have HSN := Lib.hid (show LSrc (fun q => S q ∧ q < w.heap.size) w3 g b sc f (N' + 1) by have h := HS3.out; unfold Go.Proofs.YtimbbfneaaglbaaGreat.Src.readN at h; rw [HRR.out, if_pos rfl] at h; exact h)
        obtain ⟨rs, hrs⟩ : ∃ rs, readL b f sc N' (p + (k : Int)) (78 - (k : Int)) = rs := ⟨_, rfl⟩
        rw [hrs] at HRM HAPP hd
        rw [hrs, hd]
        rw [hd] at HRM
        have hsw : w.heap.size + 1 ≤ w3.heap.size := by have := HBK3.out.1; omega
        clear HO3 HS3 happ hrs
        go_wp2_with (at_builtin; refine wpList_append_ints rfl _ _ 28 rfl .u8 (w.heap.size + 1) 5 i0 1 Tryz.underlying28 hi hz0 hz1 hz2 _ _ _ rfl HR3.out _ _ _ rs rfl HRM.out (by omega) (by omega) hsw ?_; intro v6 w6 hown6 hgr6)
        have hrow3 : ∀ q, (Value.slice A k c).ownBlock = some q → w.heap.size < q := fun q hq => by have := (HR3.out.lt q hq).1; omega
        obtain ⟨A6, c6, rfl, -, -, -, -⟩ := own_slice hown6
        go_roundw
        case rel => exact ⟨k + d, N' + 1, hkd, by omega, by rw [← HAPP.out]; exact hown6, src_row HSN.out hglt hgr6 hrow3, by omega, grown_row HG3.out hgr6 hrow3, HBK3.out.grown hgr6 (fun e => by have := hrow3 _ e.symm; omega), fun _ => ⟨hp0, hpb2⟩⟩
        case measure => (show (restB b f p).length - (k + d) < (restB b f p).length - k; omega)
      have hr0' : ((r : Int) == 0) = false := by simp; omega
      have HE := Lib.hid (HST.out r HRR.out hr0)
      have HSN := Lib.hid (show LSrc (fun q => S q ∧ q < w.heap.size) w3 g b sc f N' by have h := HS3.out; unfold Go.Proofs.YtimbbfneaaglbaaGreat.Src.readN at h; rw [HRR.out, if_neg hr0] at h; exact h)
      have HV := Lib.hid (show scanV b f p props = noEv by unfold scanV; rw [HE.out, if_neg]; split <;> omega)
      have HNN := Lib.hid (show scanN b f p props = 0 by unfold scanN; rw [HE.out, if_neg]; split <;> omega)
      clear HS3
      have s0 := HBK3.out.cell 0 rfl
      have s1 := HBK3.out.cell 1 rfl
      have t0 := HBK3.out.fz 0 rfl
      have t1 := HBK3.out.fz 1 rfl
      have u := HBK3.out.set 0 (.int .u64 0) (by simp)
      have u0 := u.cell 0 rfl
      have u1 := (u.set 1 (.slice none 0 0) (by simp)).cell 1 rfl
      clear u
      by_cases hr13 : r = 13
      · subst hr13
        go_wp2_with fail
        refine bodyPost_ret (v := .tuple #[.agg #[.int .u64 0, .slice none 0 0], .int .i64 0, .int .i64 (er : Nat)]) (by simp [results, Tryz.results96, go_sem, u0, u1]) rfl ?_
        unfold GotRecS
        rw [HV.out, HNN.out, HE.out, if_pos trivial]
        exact ⟨none, 0, N', rfl, no_ok _, HUP.out _ _ (src_box (src_box HSN.out hglt _ _) hglt _ _), by omega, grown_box (grown_box HG3.out _ _) _ _, fun a e => by cases e⟩
      have hr13' : ((r : Int) == 13) = false := by simp; omega
      go_wp2_with fail
      refine bodyPost_ret (v := .tuple #[.agg #[.int .u64 0, .slice none 0 0], .int .i64 0, .int .i64 (r : Nat)]) (by simp [results, Tryz.results96, go_sem, u0, u1]) rfl ?_
      unfold GotRecS
      rw [HV.out, HNN.out, HE.out, if_neg hr13]
      exact ⟨none, 0, N', rfl, no_ok _, HUP.out _ _ (src_box (src_box HSN.out hglt _ _) hglt _ _), by omega, grown_box (grown_box HG3.out _ _) _ _, fun a e => by cases e⟩
end Go.Proofs.YtimbbfneaaglbaaGreat.Scan
