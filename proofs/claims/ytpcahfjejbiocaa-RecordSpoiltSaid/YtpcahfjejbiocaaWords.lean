/-
  Sets of numbers as lists of words, in plain arithmetic: which number is in, that a list without noughts at its end is told by what is in it, how many are in it, and which, in order. By an AI agent.
-/
import Derived.Lib.TrailingZeros
namespace Go.Proofs.Ytpcahfjejbiocaa.Words

/-- The word at place j; 0 behind the end. -/
def wd (xs : List Nat) (j : Nat) : Nat := xs[j]?.getD 0
/-- Is k in the set? -/
def has (xs : List Nat) (k : Nat) : Bool := (xs[k / 64]?.getD 0).testBit (k % 64)
def Ws (xs : List Nat) : Prop := ∀ j : Nat, xs[j]?.getD 0 < 18446744073709551616
def Trimmed (xs : List Nat) : Prop := 0 < xs.length → xs[xs.length - 1]?.getD 0 ≠ 0
/-- The set, as it is told: no noughts at the end. -/
def IsSet (xs : List Nat) (f : Nat → Bool) : Prop := Ws xs ∧ Trimmed xs ∧ ∀ k, has xs k = f k

theorem out_getD {xs : List Nat} {j : Nat} (h : xs.length ≤ j) : xs[j]?.getD 0 = 0 := by rw [List.getElem?_eq_none h, Option.getD_none]
theorem bit_high {x i : Nat} (h : x < 18446744073709551616) (hi : 64 ≤ i) : x.testBit i = false :=
  Nat.testBit_lt_two_pow (Nat.lt_of_lt_of_le h (by have := Nat.pow_le_pow_right (n := 2) (by omega) hi; simpa using this))
theorem has_at (xs : List Nat) (j i : Nat) (hi : i < 64) : has xs (64 * j + i) = (xs[j]?.getD 0).testBit i := by
  unfold has
  rw [show (64 * j + i) / 64 = j by omega, show (64 * j + i) % 64 = i by omega]
theorem words_ext {xs ys : List Nat} (hx : Ws xs) (hy : Ws ys) (h : ∀ k, has xs k = has ys k) (j : Nat) : xs[j]?.getD 0 = ys[j]?.getD 0 := by
  apply Nat.eq_of_testBit_eq
  intro i
  by_cases hi : i < 64
  · rw [← has_at xs j i hi, ← has_at ys j i hi, h]
  · rw [bit_high (hx j) (by omega), bit_high (hy j) (by omega)]
theorem trimmed_le {xs ys : List Nat} (ht : Trimmed ys) (h : ∀ j : Nat, xs[j]?.getD 0 = ys[j]?.getD 0) : ys.length ≤ xs.length := by
  apply Nat.le_of_not_lt
  intro hlt
  refine ht (by omega) ?_
  rw [← h, out_getD (by omega)]
theorem list_ext {xs ys : List Nat} (hl : xs.length = ys.length) (h : ∀ j : Nat, j < xs.length → xs[j]?.getD 0 = ys[j]?.getD 0) : xs = ys := by
  apply List.ext_getElem hl
  intro j h1 h2
  have := h j h1
  rwa [List.getElem?_eq_getElem h1, List.getElem?_eq_getElem h2, Option.getD_some, Option.getD_some] at this
theorem set_ext {xs ys : List Nat} {f : Nat → Bool} (hx : IsSet xs f) (hy : IsSet ys f) : xs = ys := by
  have h := words_ext hx.1 hy.1 (fun k => by rw [hx.2.2, hy.2.2])
  exact list_ext (Nat.le_antisymm (trimmed_le hx.2.1 (fun j => (h j).symm)) (trimmed_le hy.2.1 h)) (fun j _ => h j)
theorem IsSet.congr {xs : List Nat} {f g : Nat → Bool} (h : IsSet xs f) (e : ∀ k, f k = g k) : IsSet xs g := ⟨h.1, h.2.1, fun k => by rw [h.2.2, e]⟩
theorem IsSet.empty {xs : List Nat} {f : Nat → Bool} (h : IsSet xs f) : xs.length = 0 ↔ ∀ k, f k = false := by
  constructor
  · intro h0 k
    rw [← h.2.2, has, out_getD (by omega)]
    simp
  · intro hf
    have e : IsSet [] f := ⟨fun j => by simp, fun h => by simp at h, fun k => by simp [has, hf]⟩
    rw [set_ext h e]; rfl

/-- n is how many words there are without the noughts at the end. -/
def Used (xs : List Nat) (n : Nat) : Prop := n ≤ xs.length ∧ (∀ j : Nat, n ≤ j → xs[j]?.getD 0 = 0) ∧ (0 < n → xs[n - 1]?.getD 0 ≠ 0)
theorem take_getD (xs : List Nat) (n j : Nat) : (xs.take n)[j]?.getD 0 = if j < n then xs[j]?.getD 0 else 0 := by
  by_cases h : j < n
  · rw [if_pos h, List.getElem?_take_of_lt h]
  · rw [if_neg h, List.getElem?_eq_none (by rw [List.length_take]; omega)]; rfl
theorem Used.set {xs : List Nat} {n : Nat} {f : Nat → Bool} (h : Used xs n) (hw : Ws xs) (hf : ∀ k, has xs k = f k) : IsSet (xs.take n) f := by
  have e : ∀ j : Nat, (xs.take n)[j]?.getD 0 = xs[j]?.getD 0 := fun j => by
    rw [take_getD]
    split
    · rfl
    · rw [h.2.1 j (by omega)]
  have hl : (xs.take n).length = n := by rw [List.length_take]; have := h.1; omega
  refine ⟨fun j => by rw [e]; exact hw j, fun h0 => ?_, fun k => by rw [← hf]; unfold has; rw [e]⟩
  rw [e, hl]
  exact h.2.2 (by omega)

/-- n words: word j is f j. -/
def tab (n : Nat) (f : Nat → Nat) : List Nat := (List.range n).map f
/-- The same while it is being filled: the first k. -/
def fill (n k : Nat) (f : Nat → Nat) : List Nat := (List.range n).map fun i => if i < k then f i else 0
theorem tab_len (n : Nat) (f : Nat → Nat) : (tab n f).length = n := by simp [tab]
theorem fill_len (n k : Nat) (f : Nat → Nat) : (fill n k f).length = n := by simp [fill]
theorem tab_at (n : Nat) (f : Nat → Nat) (j : Nat) : (tab n f)[j]?.getD 0 = if j < n then f j else 0 := by
  unfold tab
  by_cases h : j < n
  · simp [h]
  · simp [h]
theorem fill_at (n k : Nat) (f : Nat → Nat) (j : Nat) : (fill n k f)[j]?.getD 0 = if j < n ∧ j < k then f j else 0 := by
  unfold fill
  by_cases h : j < n
  · by_cases h2 : j < k <;> simp [h, h2]
  · simp [h]
theorem fill_zero (n : Nat) (f : Nat → Nat) : fill n 0 f = List.replicate n 0 := by
  apply list_ext
  · simp [fill_len]
  · intro j hj
    rw [fill_len] at hj
    rw [fill_at, List.getElem?_replicate]
    simp [hj]
theorem fill_all (n k : Nat) (f : Nat → Nat) (h : n ≤ k) : fill n k f = tab n f := by
  apply list_ext
  · simp [fill_len, tab_len]
  · intro j hj
    rw [fill_len] at hj
    rw [fill_at, tab_at, if_pos ⟨hj, by omega⟩, if_pos hj]
theorem fill_set (n k : Nat) (f : Nat → Nat) : (fill n k f).set k (f k) = fill n (k + 1) f := by
  apply list_ext
  · simp [fill_len]
  · intro j hj
    rw [List.length_set, fill_len] at hj
    rw [fill_at, List.getElem?_set, fill_len]
    by_cases h : k = j
    · subst h; simp [hj]
    · rw [if_neg h, fill_at]
      by_cases h2 : j < k
      · rw [if_pos ⟨hj, h2⟩, if_pos ⟨hj, by omega⟩]
      · rw [if_neg (by omega), if_neg (by omega)]

/-! ### what is in both, in one, in the first alone -/
theorem or_lt {a b : Nat} (ha : a < 18446744073709551616) (hb : b < 18446744073709551616) : a ||| b < 18446744073709551616 := Nat.or_lt_two_pow (n := 64) ha hb
theorem and_lt {a b : Nat} (hb : b < 18446744073709551616) : a &&& b < 18446744073709551616 := Nat.and_lt_two_pow (n := 64) a hb
/-- a &^ b, of words. -/
def anot (a b : Nat) : Nat := a ^^^ (a &&& b)
theorem anot_bit (a b i : Nat) : (anot a b).testBit i = (a.testBit i && !b.testBit i) := by
  unfold anot
  rw [Nat.testBit_xor, Nat.testBit_and]
  cases a.testBit i <;> cases b.testBit i <;> rfl
theorem anot_lt {a b : Nat} (ha : a < 18446744073709551616) : anot a b < 18446744073709551616 :=
  Nat.xor_lt_two_pow (n := 64) ha (by rw [Nat.and_comm]; exact Nat.and_lt_two_pow (n := 64) b ha)
theorem anot_zero (a : Nat) : anot a 0 = a := by simp [anot]
theorem zero_anot (b : Nat) : anot 0 b = 0 := by simp [anot]

/-- The words f of a b, up to where they end. -/
theorem has_tab {n : Nat} {f : Nat → Nat} (hf : ∀ j, n ≤ j → f j = 0) (k : Nat) : has (tab n f) k = (f (k / 64)).testBit (k % 64) := by
  unfold has
  rw [tab_at]
  split
  · rfl
  · rw [hf _ (by omega)]
theorem tab_set {n : Nat} {f : Nat → Nat} {p : Nat → Bool} (hw : ∀ j, f j < 18446744073709551616) (hz : ∀ j, n ≤ j → f j = 0) (ht : 0 < n → f (n - 1) ≠ 0) (hp : ∀ k, (f (k / 64)).testBit (k % 64) = p k) : IsSet (tab n f) p := by
  refine ⟨fun j => ?_, fun h0 => ?_, fun k => by rw [has_tab hz, hp]⟩
  · rw [tab_at]
    split
    · exact hw j
    · omega
  · rw [tab_len] at h0 ⊢
    rw [tab_at, if_pos (by omega)]
    exact ht h0

/-! ### how many, and which -/
/-- The bits of a word, in order. -/
def bitsOf (x : Nat) : List Nat := (List.range 64).filter x.testBit
/-- The numbers of a set, in order; the first word's are from 64 i on. -/
def elems : Nat → List Nat → List Nat
  | _, [] => []
  | i, x :: r => (bitsOf x).map (64 * i + ·) ++ elems (i + 1) r
def total (xs : List Nat) : Nat := (xs.map fun x => (bitsOf x).length).sum
theorem elems_len : ∀ (i : Nat) (xs : List Nat), (elems i xs).length = total xs
  | _, [] => rfl
  | i, x :: r => by simp [elems, total, elems_len (i + 1) r]
theorem elems_append : ∀ (i : Nat) (xs ys : List Nat), elems i (xs ++ ys) = elems i xs ++ elems (i + xs.length) ys
  | _, [], ys => by simp [elems]
  | i, x :: r, ys => by simp [elems, elems_append (i + 1) r ys, Nat.add_assoc, Nat.add_comm 1]
theorem take_snoc' (l : List Nat) (k : Nat) (h : k < l.length) : l.take (k + 1) = l.take k ++ [l[k]?.getD 0] := by
  rw [List.take_succ_eq_append_getElem h]; simp [List.getElem?_eq_getElem h]
theorem elems_snoc (xs : List Nat) (k : Nat) (h : k < xs.length) : elems 0 (xs.take (k + 1)) = elems 0 (xs.take k) ++ (bitsOf (xs[k]?.getD 0)).map (64 * k + ·) := by
  rw [take_snoc' xs k h, elems_append]
  simp [elems, Nat.min_eq_left (Nat.le_of_lt h)]
theorem total_snoc (xs : List Nat) (k : Nat) (h : k < xs.length) : total (xs.take (k + 1)) = total (xs.take k) + (bitsOf (xs[k]?.getD 0)).length := by
  rw [take_snoc' xs k h]
  simp [total]
theorem bits_le (x : Nat) : (bitsOf x).length ≤ 64 := by
  have := List.length_filter_le x.testBit (List.range 64)
  simpa [bitsOf] using this
theorem total_le : ∀ xs : List Nat, total xs ≤ 64 * xs.length
  | [] => by simp [total]
  | x :: r => by
    have h1 := bits_le x
    have h2 := total_le r
    simp only [total, List.map_cons, List.sum_cons, List.length_cons] at h2 ⊢
    omega
theorem mem_elems : ∀ (i : Nat) (xs : List Nat) (k : Nat), k ∈ elems i xs ↔ 64 * i ≤ k ∧ has xs (k - 64 * i) = true
  | i, [], k => by simp [elems, has]
  | i, x :: r, k => by
    rw [elems, List.mem_append, mem_elems (i + 1) r k]
    constructor
    · rintro (h | ⟨h1, h2⟩)
      · obtain ⟨b, hb, rfl⟩ := List.mem_map.1 h
        obtain ⟨h1, h2⟩ := List.mem_filter.1 hb
        rw [List.mem_range] at h1
        refine ⟨by omega, ?_⟩
        have := has_at (x :: r) 0 b h1
        rw [show 64 * i + b - 64 * i = 64 * 0 + b by omega, this]
        simpa using h2
      · refine ⟨by omega, ?_⟩
        unfold has at h2 ⊢
        rw [show (k - 64 * i) / 64 = (k - 64 * (i + 1)) / 64 + 1 by omega, show (k - 64 * i) % 64 = (k - 64 * (i + 1)) % 64 by omega]
        simpa using h2
    · rintro ⟨h1, h2⟩
      by_cases hk : k < 64 * (i + 1)
      · refine .inl (List.mem_map.2 ⟨k - 64 * i, ?_, by omega⟩)
        refine List.mem_filter.2 ⟨List.mem_range.2 (by omega), ?_⟩
        have := has_at (x :: r) 0 (k - 64 * i) (by omega)
        rw [show 64 * 0 + (k - 64 * i) = k - 64 * i by omega] at this
        rw [this] at h2
        simpa using h2
      · refine .inr ⟨by omega, ?_⟩
        unfold has at h2 ⊢
        rw [show (k - 64 * i) / 64 = (k - 64 * (i + 1)) / 64 + 1 by omega, show (k - 64 * i) % 64 = (k - 64 * (i + 1)) % 64 by omega] at h2
        simpa using h2
theorem has_elems (xs : List Nat) (k : Nat) : k ∈ elems 0 xs ↔ has xs k = true := by simpa using mem_elems 0 xs k
theorem has_lt {xs : List Nat} {k : Nat} (h : has xs k = true) : k < 64 * xs.length := by
  apply Nat.lt_of_not_le
  intro hle
  unfold has at h
  rw [out_getD (by omega)] at h
  simp at h
theorem elems_filter : ∀ (i : Nat) (xs : List Nat), elems i xs = ((List.range (64 * xs.length)).filter (has xs)).map (64 * i + ·)
  | _, [] => by simp [elems]
  | i, x :: r => by
    rw [elems, elems_filter (i + 1) r, List.length_cons, show 64 * (r.length + 1) = 64 + 64 * r.length by omega, List.range_add, List.filter_append, List.map_append]
    have e0 : List.filter (has (x :: r)) (List.range 64) = bitsOf x := by
      apply List.filter_congr
      intro b hb
      have := has_at (x :: r) 0 b (List.mem_range.1 hb)
      simpa using this
    rw [e0]
    congr 1
    · rw [List.filter_map, List.map_map]
      have e : List.filter (has (x :: r) ∘ fun j => 64 + j) (List.range (64 * r.length)) = List.filter (has r) (List.range (64 * r.length)) := by
        apply List.filter_congr
        intro b _
        simp only [Function.comp, has]
        rw [show (64 + b) / 64 = b / 64 + 1 by omega, show (64 + b) % 64 = b % 64 by omega]
        simp
      rw [e]
      apply List.map_congr_left
      intro b _
      simp only [Function.comp]
      omega
theorem filter_more (p : Nat → Bool) (n m : Nat) (hnm : n ≤ m) (h : ∀ k, n ≤ k → p k = false) : (List.range m).filter p = (List.range n).filter p := by
  obtain ⟨d, rfl⟩ : ∃ d, m = n + d := ⟨m - n, by omega⟩
  rw [List.range_add, List.filter_append]
  have : List.filter p (List.map (fun x => n + x) (List.range d)) = [] := by
    rw [List.filter_eq_nil_iff]
    intro k hk
    obtain ⟨b, _, rfl⟩ := List.mem_map.1 hk
    simp [h (n + b) (by omega)]
  rw [this, List.append_nil]
/-- How many there are: of the numbers below any end that is far enough. -/
theorem total_count (xs : List Nat) (m : Nat) (h : 64 * xs.length ≤ m) : total xs = ((List.range m).filter (has xs)).length := by
  rw [← elems_len 0 xs, elems_filter 0 xs, List.length_map, ← filter_more (has xs) _ m h]
  intro k hk
  unfold has
  rw [out_getD (by omega)]
  simp
theorem count_both (p q : Nat → Bool) (l : List Nat) : (l.filter (fun k => p k || q k)).length + (l.filter (fun k => p k && q k)).length = (l.filter p).length + (l.filter q).length := by
  induction l with
  | nil => rfl
  | cons x r ih =>
    simp only [List.filter_cons]
    cases p x <;> cases q x <;> simp <;> omega
theorem total_both {a b o i : List Nat} (ho : ∀ k, has o k = (has a k || has b k)) (hi : ∀ k, has i k = (has a k && has b k)) : total o + total i = total a + total b := by
  let m := 64 * (a.length + b.length + o.length + i.length)
  rw [total_count o m (by omega), total_count i m (by omega), total_count a m (by omega), total_count b m (by omega), ← count_both (has a) (has b),
    List.filter_congr (fun k _ => ho k), List.filter_congr (fun k _ => hi k)]
theorem total_same {a b : List Nat} (h : ∀ k, has a k = has b k) : total a = total b := by
  let m := 64 * (a.length + b.length)
  rw [total_count a m (by omega), total_count b m (by omega), List.filter_congr (fun k _ => h k)]
theorem total_none {a : List Nat} (h : ∀ k, has a k = false) : total a = 0 := by
  rw [total_count a _ (Nat.le_refl _), List.length_eq_zero_iff, List.filter_eq_nil_iff]
  intro k _
  simp [h]

/-! ### they rise -/
theorem range_rises (n : Nat) : (List.range n).Pairwise (· < ·) := by
  rw [List.pairwise_iff_getElem]
  intro i j hi hj h
  simpa using h
theorem elems_rise (xs : List Nat) : (elems 0 xs).Pairwise (· < ·) := by
  rw [elems_filter]
  simp only [Nat.mul_zero, Nat.zero_add, List.map_id']
  exact (range_rises _).filter _
theorem elems_lt (xs : List Nat) (i j : Nat) (h : i < j) (hj : j < (elems 0 xs).length) : (elems 0 xs)[i]?.getD 0 < (elems 0 xs)[j]?.getD 0 := by
  have := List.pairwise_iff_getElem.1 (elems_rise xs) i j (by omega) hj h
  rw [List.getElem?_eq_getElem hj, List.getElem?_eq_getElem (by omega)]
  exact this
theorem elems_has (xs : List Nat) (j : Nat) (hj : j < (elems 0 xs).length) : has xs ((elems 0 xs)[j]?.getD 0) = true := by
  rw [← has_elems, List.getElem?_eq_getElem hj]
  exact List.getElem_mem hj

/-! ### the lowest bit is taken away -/
theorem low_bit {x : Nat} (h0 : x ≠ 0) (h : x < 18446744073709551616) : ∃ m, x = 2 ^ Lib.ctz 64 x * (2 * m + 1) ∧ Lib.ctz 64 x < 64 := by
  have := Lib.ctzFrom_spec 64 x (by omega) h
  simpa [Lib.ctz, h0] using this
theorem low_test (k m i : Nat) : (2 ^ k * (2 * m + 1)).testBit i = (decide (k = i) || (decide (k < i) && m.testBit (i - k - 1))) := by
  rw [Nat.mul_comm, Nat.testBit_mul_two_pow]
  rcases Nat.lt_trichotomy k i with h | h | h
  · obtain ⟨d, rfl⟩ : ∃ d, i = k + d + 1 := ⟨i - k - 1, by omega⟩
    rw [show k + d + 1 - k = d + 1 by omega, Nat.testBit_succ, show (2 * m + 1) / 2 = m by omega]
    simp [show ¬ k = k + d + 1 by omega, show k < k + d + 1 by omega, show k ≤ k + d + 1 by omega]
  · subst h
    simp
  · simp [show ¬ k ≤ i by omega, show ¬ k = i by omega, show ¬ k < i by omega]
theorem low_pred (k m i : Nat) : (2 ^ k * (2 * m + 1) - 1).testBit i = (decide (i < k) || (decide (k < i) && m.testBit (i - k - 1))) := by
  have hp := Nat.two_pow_pos k
  have e : 2 ^ k * (2 * m + 1) - 1 = 2 ^ (k + 1) * m + (2 ^ k - 1) := by
    rw [Nat.mul_add, Nat.pow_succ, ← Nat.mul_assoc, Nat.mul_one]
    omega
  have hlt : 2 ^ k - 1 < 2 ^ (k + 1) := by rw [Nat.pow_succ]; omega
  rw [e, Nat.two_pow_add_eq_or_of_lt hlt, Nat.testBit_or, Nat.mul_comm, Nat.testBit_mul_two_pow, Nat.testBit_two_pow_sub_one]
  rcases Nat.lt_trichotomy k i with h | h | h
  · simp [show k + 1 ≤ i by omega, show ¬ i < k by omega, h, show i - (k + 1) = i - k - 1 by omega]
  · simp [show ¬ k + 1 ≤ i by omega, show ¬ i < k by omega, show ¬ k < i by omega]
  · simp [show ¬ k + 1 ≤ i by omega, h, show ¬ k < i by omega]
/-- x & (x - 1): the lowest bit is gone, the others stand. -/
theorem drop_low {x : Nat} (h0 : x ≠ 0) (h : x < 18446744073709551616) : bitsOf x = Lib.ctz 64 x :: bitsOf (x &&& (x - 1)) := by
  obtain ⟨m, hm, hk⟩ := low_bit h0 h
  generalize Lib.ctz 64 x = k at hm hk
  have e : List.range 64 = List.range k ++ k :: (List.range (63 - k)).map (fun i => k + 1 + i) := by
    rw [show (64 : Nat) = k + ((63 - k) + 1) by omega, List.range_add, List.range_succ_eq_map]
    simp [List.map_map, Function.comp_def, Nat.add_comm, Nat.add_left_comm]
  have t1 : ∀ i, x.testBit i = (decide (k = i) || (decide (k < i) && m.testBit (i - k - 1))) := fun i => by rw [hm, low_test]
  have t2 : ∀ i, (x &&& (x - 1)).testBit i = (decide (k < i) && m.testBit (i - k - 1)) := fun i => by
    rw [Nat.testBit_and, hm, low_test, low_pred]
    rcases Nat.lt_trichotomy k i with h | h | h
    · simp only [h, show ¬ k = i by omega, show ¬ i < k by omega, decide_true, decide_false, Bool.false_or, Bool.true_and, Bool.and_self]
    · simp [h]
    · simp [show ¬ k = i by omega, show ¬ k < i by omega]
  have z1 : List.filter x.testBit (List.range k) = [] := by
    rw [List.filter_eq_nil_iff]
    intro i hi
    rw [List.mem_range] at hi
    simp [t1, show ¬ k = i by omega, show ¬ k < i by omega]
  have z2 : List.filter (x &&& (x - 1)).testBit (List.range k) = [] := by
    rw [List.filter_eq_nil_iff]
    intro i hi
    rw [List.mem_range] at hi
    simp [t2, show ¬ k < i by omega]
  unfold bitsOf
  rw [e, List.filter_append, List.filter_append, z1, z2, List.nil_append, List.nil_append, List.filter_cons, List.filter_cons, if_pos (by rw [t1]; simp), if_neg (by rw [t2]; simp)]
  congr 1
  apply List.filter_congr
  intro i hi
  obtain ⟨b, _, rfl⟩ := List.mem_map.1 hi
  rw [t1, t2]
  simp [show ¬ k = k + 1 + b by omega]
theorem drop_lt {x : Nat} (h0 : x ≠ 0) : x &&& (x - 1) < x := Nat.lt_of_le_of_lt Nat.and_le_right (by omega)
theorem bits_zero : bitsOf 0 = [] := by
  unfold bitsOf
  rw [List.filter_eq_nil_iff]
  simp
end Go.Proofs.Ytpcahfjejbiocaa.Words
