/-
  How many bits a word has, as math/bits reckons it: by bits, by pairs, by halves of a byte, by bytes. By an AI agent.
-/
import Derived.Test.YtmmlnfffnfjjnaaDoorWords
namespace Go.Proofs.YtmmlnfffnfjjnaaDoor.Words

/-- Bytes as a number, the lowest first. -/
def val : List Nat → Nat
  | [] => 0
  | b :: r => b + 256 * val r
def rep (c : Nat) : Nat → Nat
  | 0 => 0
  | n + 1 => c + 256 * rep c n
def bytes : Nat → Nat → List Nat
  | 0, _ => []
  | n + 1, x => x % 256 :: bytes n (x / 256)
theorem bytes_lt : ∀ (n x b : Nat), b ∈ bytes n x → b < 256
  | 0, _, _, h => by simp [bytes] at h
  | n + 1, x, b, h => by
    rcases List.mem_cons.1 h with rfl | h
    · omega
    · exact bytes_lt n _ b h
theorem val_bytes : ∀ (n x : Nat), x < 256 ^ n → val (bytes n x) = x
  | 0, x, h => by simp at h; simp [bytes, val, h]
  | n + 1, x, h => by
    rw [Nat.pow_succ] at h
    rw [bytes, val, val_bytes n (x / 256) (by omega)]
    omega
theorem and_val (b c q m : Nat) (hb : b < 256) (hc : c < 256) : (b + 256 * q) &&& (c + 256 * m) = (b &&& c) + 256 * (q &&& m) := by
  have hbc : b &&& c < 2 ^ 8 := Nat.and_lt_two_pow _ hc
  apply Nat.eq_of_testBit_eq
  intro i
  have e : ∀ x y, x < 2 ^ 8 → (x + 256 * y).testBit i = if i < 8 then x.testBit i else y.testBit (i - 8) := fun x y hx => by
    rw [Nat.add_comm, show (256 : Nat) = 2 ^ 8 from rfl, Nat.testBit_two_pow_mul_add _ hx]
  rw [Nat.testBit_and, e _ _ hb, e _ _ hc, e _ _ hbc]
  split <;> rw [Nat.testBit_and]

def s1 (b : Nat) : Nat := (b / 2 &&& 85) + (b &&& 85)
def s2 (b : Nat) : Nat := (b / 4 &&& 51) + (b &&& 51)
def s3 (b : Nat) : Nat := b / 16 + b % 16
theorem b1 : ∀ b, b < 256 → ∀ r, r < 2 → (b / 2 + 128 * r) &&& 85 = b / 2 &&& 85 := by decide +kernel
theorem b2 : ∀ b, b < 256 → ∀ r, r < 4 → (b / 4 + 64 * r) &&& 51 = b / 4 &&& 51 := by decide +kernel
theorem b3 : ∀ b, b < 256 → s1 b < 256 ∧ s2 (s1 b) < 256 ∧ s2 (s1 b) / 16 ≤ 4 ∧ s2 (s1 b) % 16 ≤ 4 ∧ s3 (s2 (s1 b)) = ((List.range 8).filter b.testBit).length := by decide +kernel
theorem b4 : ∀ d, d < 256 → d &&& 15 = d % 16 := by decide +kernel

theorem step1 : ∀ l : List Nat, (∀ b ∈ l, b < 256) → (val l / 2 &&& rep 85 l.length) + (val l &&& rep 85 l.length) = val (l.map s1)
  | [], _ => by simp [val, rep]
  | b :: r, h => by
    have hb := h b (by simp)
    have ih := step1 r (fun c hc => h c (by simp [hc]))
    have e : val (b :: r) / 2 = (b / 2 + 128 * (val r % 2)) + 256 * (val r / 2) := by simp only [val]; omega
    rw [e]
    simp only [val, List.length_cons, rep, List.map_cons]
    rw [and_val _ _ _ _ (by omega) (by omega), and_val _ _ _ _ hb (by omega), b1 b hb _ (by omega), ← ih]
    unfold s1
    omega
theorem step2 : ∀ l : List Nat, (∀ b ∈ l, b < 256) → (val l / 4 &&& rep 51 l.length) + (val l &&& rep 51 l.length) = val (l.map s2)
  | [], _ => by simp [val, rep]
  | b :: r, h => by
    have hb := h b (by simp)
    have ih := step2 r (fun c hc => h c (by simp [hc]))
    have e : val (b :: r) / 4 = (b / 4 + 64 * (val r % 4)) + 256 * (val r / 4) := by simp only [val]; omega
    rw [e]
    simp only [val, List.length_cons, rep, List.map_cons]
    rw [and_val _ _ _ _ (by omega) (by omega), and_val _ _ _ _ hb (by omega), b2 b hb _ (by omega), ← ih]
    unfold s2
    omega
theorem step3 : ∀ l : List Nat, (∀ b ∈ l, b / 16 ≤ 4 ∧ b % 16 ≤ 4) → (val l / 16 + val l) &&& rep 15 l.length = val (l.map s3)
  | [], _ => by simp [val, rep]
  | b :: r, h => by
    have hb := h b (by simp)
    have ih := step3 r (fun c hc => h c (by simp [hc]))
    have hr : val r % 16 ≤ 4 := by
      cases r with
      | nil => simp [val]
      | cons c t =>
        have := (h c (by simp)).2
        simp only [val]
        omega
    have e : val (b :: r) / 16 + val (b :: r) = (b / 16 + 16 * (val r % 16) + b) + 256 * (val r / 16 + val r) := by simp only [val]; omega
    rw [e]
    simp only [List.length_cons, rep, List.map_cons]
    rw [and_val _ _ _ _ (by omega) (by omega), ih, b4 _ (by omega)]
    simp only [val, s3]
    omega
theorem count_bytes : ∀ (n x : Nat), ((List.range (8 * n)).filter x.testBit).length = ((bytes n x).map fun b => ((List.range 8).filter b.testBit).length).sum
  | 0, x => by simp [bytes]
  | n + 1, x => by
    rw [show 8 * (n + 1) = 8 + 8 * n by omega, List.range_add, List.filter_append, List.length_append, bytes, List.map_cons, List.sum_cons, ← count_bytes n (x / 256)]
    congr 1
    · congr 1
      apply List.filter_congr
      intro i hi
      rw [show (256 : Nat) = 2 ^ 8 from rfl, Nat.testBit_mod_two_pow]
      simp [List.mem_range.1 hi]
    · rw [List.filter_map, List.length_map]
      congr 1
      apply List.filter_congr
      intro i _
      rw [show (256 : Nat) = 2 ^ 8 from rfl, Nat.testBit_div_two_pow, Function.comp, Nat.add_comm]

theorem eight {l : List Nat} (h : l.length = 8) : ∃ a0 a1 a2 a3 a4 a5 a6 a7, l = [a0, a1, a2, a3, a4, a5, a6, a7] := by
  match l, h with
  | [a0, a1, a2, a3, a4, a5, a6, a7], _ => exact ⟨a0, a1, a2, a3, a4, a5, a6, a7, rfl⟩
theorem bytes_len : ∀ n x, (bytes n x).length = n
  | 0, _ => rfl
  | n + 1, x => by simp [bytes, bytes_len n]

/-- The steps of math/bits.OnesCount64. -/
theorem ones (x y1 y2 y3 y4 y5 y6 : Nat) (hx : x < 18446744073709551616) (h1 : (x / 2 &&& 6148914691236517205) + (x &&& 6148914691236517205) = y1)
    (h2 : (y1 / 4 &&& 3689348814741910323) + (y1 &&& 3689348814741910323) = y2) (h3 : (y2 / 16 + y2) &&& 1085102592571150095 = y3)
    (h4 : y3 + y3 / 256 = y4) (h5 : y4 + y4 / 65536 = y5) (h6 : y5 + y5 / 4294967296 = y6) :
    y1 < 18446744073709551616 ∧ y2 / 16 + y2 < 18446744073709551616 ∧ y2 < 18446744073709551616 ∧ y3 < 18446744073709551616 ∧ y4 < 18446744073709551616 ∧ y5 < 18446744073709551616 ∧ y6 < 18446744073709551616 ∧ y6 % 128 = (bitsOf x).length ∧ y6 < 9223372036854775808 := by
  have hl := bytes_len 8 x
  have hb := bytes_lt 8 x
  have hv := val_bytes 8 x (by simpa using hx)
  have hc : (bitsOf x).length = ((bytes 8 x).map fun b => ((List.range 8).filter b.testBit).length).sum := count_bytes 8 x
  generalize hB : bytes 8 x = l at hl hb hv hc
  have e1 : y1 = val (l.map s1) := by
    rw [← step1 l hb, hl, hv, ← h1]; rfl
  have e2 : y2 = val ((l.map s1).map s2) := by
    rw [← step2 (l.map s1) (by
      intro b hb'
      obtain ⟨c, hc', rfl⟩ := List.mem_map.1 hb'
      exact (b3 c (hb c hc')).1), List.length_map, hl, ← e1, ← h2]; rfl
  have e3 : y3 = val (((l.map s1).map s2).map s3) := by
    rw [← step3 ((l.map s1).map s2) (by
      intro b hb'
      obtain ⟨c, hc', rfl⟩ := List.mem_map.1 hb'
      obtain ⟨d, hd, rfl⟩ := List.mem_map.1 hc'
      exact ⟨(b3 d (hb d hd)).2.2.1, (b3 d (hb d hd)).2.2.2.1⟩), List.length_map, List.length_map, hl, ← e2, ← h3]; rfl
  have g1 : ∀ b ∈ l, s1 b < 256 ∧ s2 (s1 b) < 256 ∧ s2 (s1 b) / 16 ≤ 4 ∧ s2 (s1 b) % 16 ≤ 4 ∧ s3 (s2 (s1 b)) = ((List.range 8).filter b.testBit).length := fun b h => b3 b (hb b h)
  have g2 : ∀ b ∈ l, s3 (s2 (s1 b)) ≤ 8 := fun b h => by
    have := (g1 b h).2.2
    unfold s3 at this ⊢
    omega
  have hs : (l.map fun b => s3 (s2 (s1 b))).sum = (bitsOf x).length := by
    rw [hc]
    congr 1
    apply List.map_congr_left
    intro b h
    exact (g1 b h).2.2.2.2
  rw [List.map_map, List.map_map] at e3
  rw [List.map_map] at e2
  obtain ⟨a0, a1, a2, a3, a4, a5, a6, a7, rfl⟩ := eight hl
  simp only [List.map_cons, List.map_nil, List.sum_cons, List.sum_nil, Function.comp] at hs e1 e2 e3
  simp only [List.mem_cons, List.not_mem_nil, or_false, forall_eq_or_imp, forall_eq] at g1 g2
  obtain ⟨k0, k1, k2, k3, k4, k5, k6, k7⟩ := g2
  obtain ⟨j0, j1, j2, j3, j4, j5, j6, j7⟩ := g1
  rw [← hs]
  clear hs hc hv hb hB hl h1 h2 h3 hx
  simp only [val] at e1 e2 e3
  generalize s3 (s2 (s1 a0)) = c0 at *
  generalize s3 (s2 (s1 a1)) = c1 at *
  generalize s3 (s2 (s1 a2)) = c2 at *
  generalize s3 (s2 (s1 a3)) = c3 at *
  generalize s3 (s2 (s1 a4)) = c4 at *
  generalize s3 (s2 (s1 a5)) = c5 at *
  generalize s3 (s2 (s1 a6)) = c6 at *
  generalize s3 (s2 (s1 a7)) = c7 at *
  have q2 : y2 ≤ 4919131752989213764 := by omega
  have q3 : y3 ≤ 578721382704613384 := by omega
  refine ⟨by omega, by omega, by omega, by omega, by omega, by omega, by omega, ?_, by omega⟩
  have r3 : y3 = c0 + 256 * (c1 + 256 * (c2 + 256 * (c3 + 256 * (c4 + 256 * (c5 + 256 * (c6 + 256 * c7)))))) := by omega
  have r4 : y4 = (c0 + c1) + 256 * ((c1 + c2) + 256 * ((c2 + c3) + 256 * ((c3 + c4) + 256 * ((c4 + c5) + 256 * ((c5 + c6) + 256 * ((c6 + c7) + 256 * c7)))))) := by
    have : y3 / 256 = c1 + 256 * (c2 + 256 * (c3 + 256 * (c4 + 256 * (c5 + 256 * (c6 + 256 * c7))))) := by omega
    omega
  clear r3 e1 e2 e3 h4 j0 j1 j2 j3 j4 j5 j6 j7 q2 q3
  have r5 : y5 = (c0 + c1 + (c2 + c3)) + 256 * ((c1 + c2 + (c3 + c4)) + 256 * ((c2 + c3 + (c4 + c5)) + 256 * ((c3 + c4 + (c5 + c6)) + 256 * ((c4 + c5 + (c6 + c7)) + 256 * ((c5 + c6 + c7) + 256 * ((c6 + c7) + 256 * c7)))))) := by
    have : y4 / 65536 = (c2 + c3) + 256 * ((c3 + c4) + 256 * ((c4 + c5) + 256 * ((c5 + c6) + 256 * ((c6 + c7) + 256 * c7)))) := by omega
    omega
  clear r4 h5
  have r6 : y5 / 4294967296 = (c4 + c5 + (c6 + c7)) + 256 * ((c5 + c6 + c7) + 256 * ((c6 + c7) + 256 * c7)) := by omega
  omega
end Go.Proofs.YtmmlnfffnfjjnaaDoor.Words
