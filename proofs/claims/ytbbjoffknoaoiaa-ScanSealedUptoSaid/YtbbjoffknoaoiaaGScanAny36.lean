/-
  A record read in parts; a header read part by part: what is read so far tells what the whole does (stage 12). By an AI agent.
  A header read part by part: what is read so far tells what the whole is (stage 12). By an AI agent.
-/
import Derived.Test.YtbbjoffknoaoiaaGScanAny23
import Derived.Test.YtbbjoffknoaoiaaGScanAny35
namespace Go.Proofs.Ytbbjoffknoaoiaa.Scan
open Go.RowKit Go.Proofs.Ytbbjoffknoaoiaa.Ints Go.Proofs.Ytbbjoffknoaoiaa.Mem Go.Proofs.Ytbbjoffknoaoiaa.SumMath Go.Proofs.Ytbbjoffknoaoiaa.SumWalks Go.Proofs.Ytbbjoffknoaoiaa.Trace Go.Proofs.Ytbbjoffknoaoiaa.Record Go.Proofs.Ytbbjoffknoaoiaa.Log Go.Proofs.Ytbbjoffknoaoiaa.Src Go.Proofs.Ytbbjoffknoaoiaa.Lex

/-! ### records -/
theorem rec_front {x : List Int} {k : Nat} {q : Int} (h1 : errR (x.take k) q ≠ 13) (h2 : errR (x.take k) q ≠ 7) :
    errR x q = errR (x.take k) q ∧ lenR x = lenR (x.take k) ∧ (errR x q = 0 → evR x = evR (x.take k)) ∧ 0 < k := by
  have hlen : (x.take k).length = min k x.length := List.length_take
  have n13 : sizeE (x.take k) q ≠ 13 := fun e => h1 (by unfold errR; rw [if_pos (by omega)]; exact e)
  have n7 : sizeE (x.take k) q ≠ 7 := fun e => h2 (by unfold errR; rw [if_pos (by omega)]; exact e)
  have c0 : (x.take k).length ≠ 0 := fun e => n13 (by unfold sizeE; rw [if_pos e])
  have c1 : (x.take k).length ≠ 1 := fun e => n7 (by unfold sizeE; rw [if_neg c0, if_pos e])
  have hk : 2 ≤ k := by omega
  have hL : lenR (x.take k) = lenR x := lenR_take hk
  refine ⟨?_, hL.symm, ?_, by omega⟩
  all_goals
    by_cases hs : (lenR x : Int) < 8 ∨ (lenR x : Int) > 8 + q
    · have e1 : sizeE (x.take k) q = 2 := by unfold sizeE; rw [if_neg c0, if_neg c1, hL, if_pos hs]
      have e2 : sizeE x q = 2 := by unfold sizeE; rw [if_neg (by omega), if_neg (by omega), if_pos hs]
      have e3 : errR x q = 2 := by unfold errR; rw [e2]; rfl
      have e4 : errR (x.take k) q = 2 := by unfold errR; rw [e1]; rfl
      first
        | rw [e3, e4]
        | (intro e; rw [e3] at e; cases e)
    · have hfit : ¬ (x.take k).length < lenR x + 6 := fun e => n7 (by unfold sizeE; rw [if_neg c0, if_neg c1, hL, if_neg hs, if_pos e])
      have e1 : sizeE (x.take k) q = 0 := by unfold sizeE; rw [if_neg c0, if_neg c1, hL, if_neg hs, if_neg hfit]
      have e2 : sizeE x q = 0 := by unfold sizeE; rw [if_neg (by omega), if_neg (by omega), if_neg hs, if_neg (by omega)]
      have e3 : (x.take k).take (lenR x + 6) = x.take (lenR x + 6) := by rw [List.take_take, Nat.min_eq_left (by omega)]
      have e4 : evR (x.take k) = evR x := by
        have t1 : ((x.take k).drop 2).take 8 = (x.drop 2).take 8 := by rw [List.drop_take, List.take_take, Nat.min_eq_left (by omega)]
        have t2 : ((x.take k).drop 10).take (lenR x - 8) = (x.drop 10).take (lenR x - 8) := by rw [List.drop_take, List.take_take, Nat.min_eq_left (by omega)]
        unfold evR
        rw [hL, t1, t2]
      first
        | (unfold errR; rw [e1, e2, hL, e3, e4])
        | (intro _; exact e4.symm)
theorem rec_room {y : List Int} {q : Int} (h : errR y q = 13 ∨ errR y q = 7) (hq : 0 ≤ q ∧ q ≤ 64) : y.length < 78 := by
  by_cases hc : y.length < 78
  · exact hc
  · exfalso
    by_cases hs : (lenR y : Int) < 8 ∨ (lenR y : Int) > 8 + q
    · have e2 : sizeE y q = 2 := by unfold sizeE; rw [if_neg (by omega), if_neg (by omega), if_pos hs]
      have e3 : errR y q = 2 := by unfold errR; rw [e2]; rfl
      omega
    · have e2 : sizeE y q = 0 := by unfold sizeE; rw [if_neg (by omega), if_neg (by omega), if_neg hs, if_neg (by omega)]
      unfold errR at h
      rw [e2, if_neg (by simp)] at h
      revert h
      repeat' split
      all_goals simp
theorem err_nil (q : Int) : errR [] q = 13 := rfl
theorem rest_len (b : List Int) (f : Nat) (p : Int) (hf : f ≤ b.length) : (restB b f p).length = f - p.toNat := by
  unfold restB
  rw [List.length_drop, List.length_take]
  omega
/-- What was read is enough. -/
theorem scan_done {b : List Int} {f k : Nat} {p props : Int} (hp : 0 < k → 0 ≤ p ∧ p < b.length) {n : Nat} (he : errR ((restB b f p).take k) (propsR props) = n) (h1 : n ≠ 13) (h2 : n ≠ 7) :
    scanE b f p props = n ∧ scanV b f p props = getE ((restB b f p).take k) props ∧ scanN b f p props = (if n = 0 then p.toNat + getN ((restB b f p).take k) props else 0) ∧ 0 ≤ p ∧ p < b.length := by
  obtain ⟨e1, e2, e3, e4⟩ := rec_front (x := restB b f p) (k := k) (q := propsR props) (by rw [he]; exact h1) (by rw [he]; exact h2)
  obtain ⟨p1, p2⟩ := hp e4
  rw [he] at e1
  have hE : scanE b f p props = n := by
    unfold scanE
    rw [if_neg (by omega), if_neg (by omega), e1, if_neg (by omega)]
  refine ⟨hE, ?_, ?_, p1, p2⟩
  · unfold scanV getE
    rw [hE, he, e1]
    by_cases h0 : n = 0
    · rw [if_pos h0, if_pos h0, if_pos h0, e3 (by rw [e1]; exact h0)]
    · rw [if_neg h0, if_neg h0]
  · unfold scanN getN
    rw [hE, he, e1, e2]
/-- There is no more to read. -/
theorem scan_stop {b : List Int} {f k n : Nat} {p props m : Int} (hf : f ≤ b.length) (hk : k ≤ (restB b f p).length) (hp : 0 < k → 0 ≤ p ∧ p < b.length) (he : errR ((restB b f p).take k) (propsR props) = n) (hn : n = 13 ∨ n = 7) (hm : 1 ≤ m) {r : Nat} (hr : readE b.length f (p + k) m = r) (hr0 : r ≠ 0) :
    scanE b f p props = (if r = 13 then n else r) := by
  have hrl := rest_len b f p hf
  unfold readE at hr
  by_cases c1 : p + k < 0
  · have hp0 : p < 0 := by omega
    rw [if_pos (.inl c1)] at hr
    subst hr
    unfold scanE
    rw [if_pos hp0]
    rfl
  · rw [if_neg (by omega)] at hr
    have p0 : 0 ≤ p := by
      rcases Nat.eq_zero_or_pos k with h0 | h0
      · subst h0; omega
      · exact (hp h0).1
    by_cases c2 : (b.length : Int) ≤ p + k
    · rw [if_pos c2] at hr
      subst hr
      rw [if_pos rfl]
      rcases Nat.eq_zero_or_pos k with h0 | h0
      · subst h0
        rw [List.take_zero, err_nil] at he
        unfold scanE
        rw [if_neg (by omega), if_pos (by omega)]
        exact he
      · have := hp h0
        have hkx : (restB b f p).take k = restB b f p := List.take_of_length_le (by omega)
        rw [hkx] at he
        unfold scanE
        rw [if_neg (by omega), if_neg (by omega), if_neg (by omega)]
        exact he
    · rw [if_neg c2] at hr
      by_cases c3 : (f : Int) ≤ p + k
      · rw [if_pos c3] at hr
        subst hr
        have hkx : (restB b f p).take k = restB b f p := List.take_of_length_le (by omega)
        rw [hkx] at he
        unfold scanE
        rw [if_neg (by omega), if_neg (by omega), if_pos ⟨by omega, by omega⟩]
        rfl
      · rw [if_neg c3] at hr
        exact absurd hr.symm hr0
/-- There is more to read. -/
theorem scan_more {b : List Int} {f k : Nat} (sc : List Int) (N : Nat) {p m : Int} (hf : f ≤ b.length) (hk : k ≤ (restB b f p).length) (hp : 0 < k → 0 ≤ p ∧ p < b.length) (hr : readE b.length f (p + k) m = 0) :
    ∃ d, (readL b f sc N (p + k) m).length = d ∧ (restB b f p).take k ++ readL b f sc N (p + k) m = (restB b f p).take (k + d) ∧ k + d ≤ (restB b f p).length ∧ 1 ≤ d ∧ (d : Int) ≤ m ∧ 0 ≤ p ∧ p < b.length := by
  have hrl := rest_len b f p hf
  have hlen := readL_len sc N hf hr
  obtain ⟨k1, k2, -, k4⟩ := readK_bd sc N hf hr
  obtain ⟨z1, -, z3, z4⟩ := read_zero hr
  have hL : readL b f sc N (p + k) m = (b.drop (p + k).toNat).take (readK f sc N (p + k) m) := by unfold readL; rw [if_pos hr]
  obtain ⟨d, hd⟩ : ∃ d, readK f sc N (p + k) m = d := ⟨_, rfl⟩
  rw [hd] at hL hlen k1 k2 k4
  have p0 : 0 ≤ p := by
    rcases Nat.eq_zero_or_pos k with h0 | h0
    · subst h0; omega
    · exact (hp h0).1
  refine ⟨d, hlen, ?_, by omega, k1, k4, p0, by omega⟩
  rw [hL]
  unfold restB
  rw [show min p.toNat f = p.toNat by omega, show (p + k).toNat = p.toNat + k by omega, List.take_add, List.drop_drop]
  congr 1
  rw [show p.toNat + k = p.toNat + k from rfl, List.drop_take, List.take_take, Nat.min_eq_left (by omega)]
end Go.Proofs.Ytbbjoffknoaoiaa.Scan

namespace Go.Proofs.Ytbbjoffknoaoiaa.Scan
open Go.RowKit Go.Proofs.Ytbbjoffknoaoiaa.Ints Go.Proofs.Ytbbjoffknoaoiaa.Mem Go.Proofs.Ytbbjoffknoaoiaa.SumMath Go.Proofs.Ytbbjoffknoaoiaa.SumWalks Go.Proofs.Ytbbjoffknoaoiaa.Trace Go.Proofs.Ytbbjoffknoaoiaa.Record Go.Proofs.Ytbbjoffknoaoiaa.Log Go.Proofs.Ytbbjoffknoaoiaa.Src
open Go.Proofs.Ytbbjoffknoaoiaa.Lex (nameS)

/-- What is wrong where bytes are missing. -/
def missE (n f : Nat) : Nat := if f < n then 10 else 5
theorem miss_ne (n f : Nat) : missE n f ≠ 0 := by unfold missE; split <;> decide
theorem rest_zero (b : List Int) (f : Nat) : restB b f 0 = b.take f := by unfold restB; simp
/-- A part has more bytes to read. -/
theorem part_more {b : List Int} {f j : Nat} (sc : List Int) (N : Nat) {m : Int} (hf : f ≤ b.length) (hj : j ≤ (b.take f).length) (hr : readE b.length f (j : Int) m = 0) :
    ∃ d, (readL b f sc N (j : Int) m).length = d ∧ (b.take f).take j ++ readL b f sc N (j : Int) m = (b.take f).take (j + d) ∧ j + d ≤ (b.take f).length ∧ 1 ≤ d ∧ (d : Int) ≤ m := by
  have hlt := read_zero hr
  obtain ⟨d, h1, h2, h3, h4, h5, -, -⟩ := scan_more (k := j) (p := 0) (m := m) sc N hf (by rw [rest_zero]; exact hj) (fun _ => ⟨Int.le_refl 0, by omega⟩) (by rw [Int.zero_add]; exact hr)
  rw [Int.zero_add] at h1 h2
  rw [rest_zero] at h2 h3
  exact ⟨d, h1, h2, h3, h4, h5⟩
/-- Bytes of a part are missing, or cannot be read. -/
theorem part_stop {b : List Int} {f j r : Nat} {m : Int} (hf : f ≤ b.length) (hj : j ≤ (b.take f).length) (hm : 1 ≤ m) (hr : readE b.length f (j : Int) m = r) (h0 : r ≠ 0) :
    j = (b.take f).length ∧ ((r = 13 ∧ missE b.length f = 5) ∨ (r = 10 ∧ missE b.length f = 10)) := by
  rw [List.length_take] at hj ⊢
  unfold readE at hr
  rw [if_neg (by omega)] at hr
  by_cases c2 : (b.length : Int) ≤ (j : Int)
  · rw [if_pos c2] at hr
    exact ⟨by omega, .inl ⟨hr.symm, by unfold missE; rw [if_neg (by omega)]⟩⟩
  · rw [if_neg c2] at hr
    by_cases c3 : (f : Int) ≤ (j : Int)
    · rw [if_pos c3] at hr
      exact ⟨by omega, .inr ⟨hr.symm, by unfold missE; rw [if_pos (by omega)]⟩⟩
    · rw [if_neg c3] at hr
      exact absurd hr.symm h0

/-- What is wrong with a header's first part. -/
def countE (x : List Int) (ms : Nat) : Nat := if x.length < 5 then ms else if x.take 4 ≠ [87, 71, 76, 1] ∨ 64 < byteAt x 4 then 5 else 0
/-- What is wrong with the two parts of a name, whatever its bytes are. -/
def spelE (x : List Int) (ms k : Nat) : Nat :=
  if x.length ≤ k then ms else if byteAt x k < 1 ∨ 16 < byteAt x k then 5 else if x.length < k + 1 + byteAt x k then ms else 0
theorem count_bad {x : List Int} {ms : Nat} (h : countE x ms ≠ 0) : headD x ms = ([], 0, countE x ms) := by
  unfold countE at h ⊢
  unfold headD
  by_cases h5 : x.length < 5
  · rw [if_pos h5, if_pos h5]
  · rw [if_neg h5] at h ⊢
    rw [if_neg h5]
    by_cases hb : x.take 4 ≠ [87, 71, 76, 1] ∨ 64 < byteAt x 4
    · rw [if_pos hb, if_pos hb]
    · rw [if_neg hb] at h; exact absurd rfl h
theorem count_ok {x : List Int} {ms : Nat} (hm : ms ≠ 0) (h : countE x ms = 0) : 5 ≤ x.length ∧ x.take 4 = [87, 71, 76, 1] ∧ byteAt x 4 ≤ 64 ∧ headD x ms = lastD x ms (namesD x ms (byteAt x 4) 5 []) := by
  unfold countE at h
  by_cases h5 : x.length < 5
  · rw [if_pos h5] at h; exact absurd h hm
  · rw [if_neg h5] at h
    by_cases hb : x.take 4 ≠ [87, 71, 76, 1] ∨ 64 < byteAt x 4
    · rw [if_pos hb] at h; cases h
    · have e1 : x.take 4 = [87, 71, 76, 1] := Decidable.byContradiction fun e => hb (.inl e)
      refine ⟨by omega, e1, Nat.le_of_not_lt fun e => hb (.inr e), ?_⟩
      unfold headD
      rw [if_neg h5, if_neg hb]
/-- A name that cannot be read. -/
theorem spell_bad {x : List Int} {ms k : Nat} (c : Nat) (acc : List (List UInt8)) (h : spelE x ms k ≠ 0) : namesD x ms (c + 1) k acc = ([], 0, spelE x ms k) := by
  unfold spelE at h ⊢
  by_cases h1 : x.length ≤ k
  · rw [if_pos h1, namesD_end c h1]
  · rw [if_neg h1] at h ⊢
    by_cases h2 : byteAt x k < 1 ∨ 16 < byteAt x k
    · rw [if_pos h2, namesD_len c h1 h2]
    · rw [if_neg h2] at h ⊢
      by_cases h3 : x.length < k + 1 + byteAt x k
      · rw [if_pos h3, namesD_short c h1 h2 h3]
      · rw [if_neg h3] at h; exact absurd rfl h
theorem spell_ok {x : List Int} {ms k : Nat} (hm : ms ≠ 0) (h : spelE x ms k = 0) : ¬ x.length ≤ k ∧ ¬ (byteAt x k < 1 ∨ 16 < byteAt x k) ∧ ¬ x.length < k + 1 + byteAt x k := by
  unfold spelE at h
  by_cases h1 : x.length ≤ k
  · rw [if_pos h1] at h; exact absurd h hm
  · rw [if_neg h1] at h
    by_cases h2 : byteAt x k < 1 ∨ 16 < byteAt x k
    · rw [if_pos h2] at h; cases h
    · rw [if_neg h2] at h
      by_cases h3 : x.length < k + 1 + byteAt x k
      · rw [if_pos h3] at h; exact absurd h hm
      · exact ⟨h1, h2, h3⟩
/-- One name more. -/
theorem names_snoc {acc : List (List UInt8)} {s : List UInt8} (h1 : ∀ t ∈ acc, nameS t = true) (h2 : acc.Nodup) (h3 : acc.length < 64) : namesOk (acc ++ [s]) = true ↔ nameS s = true ∧ s ∉ acc := by
  have hlen : (acc ++ [s]).length = acc.length + 1 := by rw [List.length_append]; rfl
  have hl : (acc ++ [s]).getD acc.length [] = s := by simp [List.getD]
  have ht : (acc ++ [s]).take acc.length = acc := by simp
  constructor
  · intro h
    have := ((namesOk_iff _).1 h).2 acc.length (by omega)
    unfold NameGood at this
    rw [hl, ht] at this
    exact this
  · intro h
    refine (namesOk_iff _).2 ⟨by omega, fun i hi => ?_⟩
    unfold NameGood
    by_cases e : i = acc.length
    · rw [e, hl, ht]; exact h
    · have hi2 : i < acc.length := by omega
      have e1 : (acc ++ [s]).getD i [] = acc[i] := by simp [List.getD, List.getElem?_append_left hi2, hi2]
      have e2 : (acc ++ [s]).take i = acc.take i := List.take_append_of_le_length (by omega)
      rw [e1, e2]
      refine ⟨h1 _ (List.getElem_mem hi2), fun hin => ?_⟩
      obtain ⟨j, hj, hje⟩ := List.getElem_of_mem hin
      rw [List.length_take] at hj
      rw [List.getElem_take] at hje
      exact List.pairwise_iff_getElem.1 h2 j i (by omega) hi2 (by omega) hje
/-- Names that are read are read so from what begins with them. -/
theorem names_front {x : List Int} {ms ms2 K : Nat} (hm : ms ≠ 0) (hK : K ≤ x.length) : ∀ (c p : Nat) (acc : List (List UInt8)), (∀ s ∈ acc, nameS s = true) → acc.Nodup → (namesD x ms c p acc).2.2 = 0 → (namesD x ms c p acc).2.1 ≤ K →
    namesD (x.take K) ms2 c p acc = namesD x ms c p acc := by
  intro c
  induction c with
  | zero => intro p acc _ _ _ _; rfl
  | succ c ih =>
    intro p acc h1 h2 h3 h4
    have hle := ((namesD_inv hm (c + 1) p acc h1 h2).1 h3).1
    by_cases e0 : spelE x ms p = 0
    rotate_left
    · rw [spell_bad c acc e0] at h3; exact absurd h3 e0
    obtain ⟨c1, c2, c3⟩ := spell_ok hm e0
    obtain ⟨s, hs⟩ : ∃ s, toU ((x.drop (p + 1)).take (byteAt x p)) = s := ⟨_, rfl⟩
    by_cases c4 : nameS s = false ∨ s ∈ acc
    · rw [namesD_none c c1 c2 c3 hs c4] at h3; cases h3
    have g1 : nameS s = true := by
      rcases hq : nameS s
      · exact absurd (.inl hq) c4
      · rfl
    have g2 : s ∉ acc := fun e => c4 (.inr e)
    have h1' : ∀ t ∈ acc ++ [s], nameS t = true := fun t ht => by
      rcases List.mem_append.1 ht with h | h
      · exact h1 t h
      · rw [List.mem_singleton.1 h]; exact g1
    have h2' : (acc ++ [s]).Nodup := by
      refine List.nodup_append.2 ⟨h2, by simp, fun a ha b hb => ?_⟩
      rw [List.mem_singleton.1 hb]
      exact fun e => g2 (e ▸ ha)
    rw [namesD_next c c1 c2 c3 hs g1 g2] at h3 h4 ⊢
    have hle2 := ((namesD_inv hm c (p + 1 + byteAt x p) (acc ++ [s]) h1' h2').1 h3).1
    have hbt : byteAt (x.take K) p = byteAt x p := byte_take (by omega)
    have hlk : (x.take K).length = K := by rw [List.length_take]; omega
    rw [← ih (p + 1 + byteAt x p) (acc ++ [s]) h1' h2' h3 h4]
    have := namesD_next (b := x.take K) (miss := ms2) c (at_ := p) (acc := acc) (s := s) (by rw [hlk]; omega) (by rw [hbt]; exact c2) (by rw [hlk, hbt]; omega) (by rw [hbt, List.drop_take, List.take_take, Nat.min_eq_left (by omega)]; exact hs) g1 g2
    rw [hbt] at this
    exact this
/-- A whole header, and what is behind it. -/
theorem head_front {x : List Int} {ms k : Nat} {acc : List (List UInt8)} (hm : ms ≠ 0) (h : countE x ms = 0) (hn : namesD x ms (byteAt x 4) 5 [] = (acc, k, 0)) (hk : k + 4 ≤ x.length) : headD (x.take (k + 4)) 5 = headD x ms := by
  obtain ⟨h5, hmk, h64, hE⟩ := count_ok hm h
  have hle := ((namesD_inv hm (byteAt x 4) 5 [] (fun s hs => by cases hs) List.nodup_nil).1 (by rw [hn])).1
  rw [hn] at hle
  have hle : 5 ≤ k := hle
  have hlk : (x.take (k + 4)).length = k + 4 := by rw [List.length_take]; omega
  have hbt : byteAt (x.take (k + 4)) 4 = byteAt x 4 := byte_take (by omega)
  have hnn := names_front (ms2 := 5) hm (K := k + 4) hk (byteAt x 4) 5 [] (fun s hs => by cases hs) List.nodup_nil (by rw [hn]) (by rw [hn]; exact Nat.le_add_right k 4)
  have h1 : headD (x.take (k + 4)) 5 = lastD (x.take (k + 4)) 5 (acc, k, 0) := by
    unfold headD
    rw [if_neg (by omega), List.take_take, Nat.min_eq_left (by omega), hbt, if_neg (fun e => e.elim (fun e => e hmk) (fun e => absurd e (by omega))), hnn, hn]
  rw [h1, hE, hn]
  have e1 : ∀ (y : List Int) (m2 : Nat), ¬ y.length < k + 4 → lastD y m2 (acc, k, 0) = if sealedB (y.take (k + 4)) = false then ([], 0, 5) else (acc, k + 4, 0) := fun y m2 hy => by
    show (if (0 : Nat) ≠ 0 then _ else if y.length < k + 4 then _ else if sealedB (y.take (k + 4)) = false then _ else (acc, k + 4, 0)) = _
    rw [if_neg (fun e => e rfl), if_neg hy]
  rw [e1 _ _ (by omega), e1 _ _ (by omega), List.take_take, Nat.min_self]
end Go.Proofs.Ytbbjoffknoaoiaa.Scan
