/-
  How many bits a word has, as math/bits reckons it: by bits, by pairs, by halves of a byte, by bytes. By an AI agent.
  The walks of package bits and of its reference: what only reads: words, which are used, is a number in, within, the same, how many. By an AI agent.
  The reference's reach, node by node: steps (stage 14). By an AI agent.
-/
import Derived.Test.YtcpmcgbjmncalaaGPathsParts10
import Derived.Test.YtcpmcgbjmncalaaChecked
import Derived.WalkKit
import Derived.WalkSpells
import Derived.WalkLawsBesides
import Derived.Below
import Derived.Lib.Hide
import Derived.BigQuiet
import Derived.Deep.QuietTactic
namespace Go.Proofs.Ytcpmcgbjmncalaa.Words

/-- Bytes as a number, the lowest first. -/
def val : List Nat → Nat
  | [] => 0
  | b :: r => b + 256 * val r
def rep (c : Nat) : Nat → Nat
  | 0 => 0
  | n + 1 => c + 256 * rep c n
def bytes : Nat → Nat → List Nat
  | 0, _ => []
  | n + 1, x => x % 256 :: bytes n (x / 256)
theorem bytes_lt : ∀ (n x b : Nat), b ∈ bytes n x → b < 256
  | 0, _, _, h => by simp [bytes] at h
  | n + 1, x, b, h => by
    rcases List.mem_cons.1 h with rfl | h
    · omega
    · exact bytes_lt n _ b h
theorem val_bytes : ∀ (n x : Nat), x < 256 ^ n → val (bytes n x) = x
  | 0, x, h => by simp at h; simp [bytes, val, h]
  | n + 1, x, h => by
    rw [Nat.pow_succ] at h
    rw [bytes, val, val_bytes n (x / 256) (by omega)]
    omega
theorem and_val (b c q m : Nat) (hb : b < 256) (hc : c < 256) : (b + 256 * q) &&& (c + 256 * m) = (b &&& c) + 256 * (q &&& m) := by
  have hbc : b &&& c < 2 ^ 8 := Nat.and_lt_two_pow _ hc
  apply Nat.eq_of_testBit_eq
  intro i
  have e : ∀ x y, x < 2 ^ 8 → (x + 256 * y).testBit i = if i < 8 then x.testBit i else y.testBit (i - 8) := fun x y hx => by
    rw [Nat.add_comm, show (256 : Nat) = 2 ^ 8 from rfl, Nat.testBit_two_pow_mul_add _ hx]
  rw [Nat.testBit_and, e _ _ hb, e _ _ hc, e _ _ hbc]
  split <;> rw [Nat.testBit_and]

def s1 (b : Nat) : Nat := (b / 2 &&& 85) + (b &&& 85)
def s2 (b : Nat) : Nat := (b / 4 &&& 51) + (b &&& 51)
def s3 (b : Nat) : Nat := b / 16 + b % 16
theorem b1 : ∀ b, b < 256 → ∀ r, r < 2 → (b / 2 + 128 * r) &&& 85 = b / 2 &&& 85 := by decide +kernel
theorem b2 : ∀ b, b < 256 → ∀ r, r < 4 → (b / 4 + 64 * r) &&& 51 = b / 4 &&& 51 := by decide +kernel
theorem b3 : ∀ b, b < 256 → s1 b < 256 ∧ s2 (s1 b) < 256 ∧ s2 (s1 b) / 16 ≤ 4 ∧ s2 (s1 b) % 16 ≤ 4 ∧ s3 (s2 (s1 b)) = ((List.range 8).filter b.testBit).length := by decide +kernel
theorem b4 : ∀ d, d < 256 → d &&& 15 = d % 16 := by decide +kernel

theorem step1 : ∀ l : List Nat, (∀ b ∈ l, b < 256) → (val l / 2 &&& rep 85 l.length) + (val l &&& rep 85 l.length) = val (l.map s1)
  | [], _ => by simp [val, rep]
  | b :: r, h => by
    have hb := h b (by simp)
    have ih := step1 r (fun c hc => h c (by simp [hc]))
    have e : val (b :: r) / 2 = (b / 2 + 128 * (val r % 2)) + 256 * (val r / 2) := by simp only [val]; omega
    rw [e]
    simp only [val, List.length_cons, rep, List.map_cons]
    rw [and_val _ _ _ _ (by omega) (by omega), and_val _ _ _ _ hb (by omega), b1 b hb _ (by omega), ← ih]
    unfold s1
    omega
theorem step2 : ∀ l : List Nat, (∀ b ∈ l, b < 256) → (val l / 4 &&& rep 51 l.length) + (val l &&& rep 51 l.length) = val (l.map s2)
  | [], _ => by simp [val, rep]
  | b :: r, h => by
    have hb := h b (by simp)
    have ih := step2 r (fun c hc => h c (by simp [hc]))
    have e : val (b :: r) / 4 = (b / 4 + 64 * (val r % 4)) + 256 * (val r / 4) := by simp only [val]; omega
    rw [e]
    simp only [val, List.length_cons, rep, List.map_cons]
    rw [and_val _ _ _ _ (by omega) (by omega), and_val _ _ _ _ hb (by omega), b2 b hb _ (by omega), ← ih]
    unfold s2
    omega
theorem step3 : ∀ l : List Nat, (∀ b ∈ l, b / 16 ≤ 4 ∧ b % 16 ≤ 4) → (val l / 16 + val l) &&& rep 15 l.length = val (l.map s3)
  | [], _ => by simp [val, rep]
  | b :: r, h => by
    have hb := h b (by simp)
    have ih := step3 r (fun c hc => h c (by simp [hc]))
    have hr : val r % 16 ≤ 4 := by
      cases r with
      | nil => simp [val]
      | cons c t =>
        have := (h c (by simp)).2
        simp only [val]
        omega
    have e : val (b :: r) / 16 + val (b :: r) = (b / 16 + 16 * (val r % 16) + b) + 256 * (val r / 16 + val r) := by simp only [val]; omega
    rw [e]
    simp only [List.length_cons, rep, List.map_cons]
    rw [and_val _ _ _ _ (by omega) (by omega), ih, b4 _ (by omega)]
    simp only [val, s3]
    omega
theorem count_bytes : ∀ (n x : Nat), ((List.range (8 * n)).filter x.testBit).length = ((bytes n x).map fun b => ((List.range 8).filter b.testBit).length).sum
  | 0, x => by simp [bytes]
  | n + 1, x => by
    rw [show 8 * (n + 1) = 8 + 8 * n by omega, List.range_add, List.filter_append, List.length_append, bytes, List.map_cons, List.sum_cons, ← count_bytes n (x / 256)]
    congr 1
    · congr 1
      apply List.filter_congr
      intro i hi
      rw [show (256 : Nat) = 2 ^ 8 from rfl, Nat.testBit_mod_two_pow]
      simp [List.mem_range.1 hi]
    · rw [List.filter_map, List.length_map]
      congr 1
      apply List.filter_congr
      intro i _
      rw [show (256 : Nat) = 2 ^ 8 from rfl, Nat.testBit_div_two_pow, Function.comp, Nat.add_comm]

theorem eight {l : List Nat} (h : l.length = 8) : ∃ a0 a1 a2 a3 a4 a5 a6 a7, l = [a0, a1, a2, a3, a4, a5, a6, a7] := by
  match l, h with
  | [a0, a1, a2, a3, a4, a5, a6, a7], _ => exact ⟨a0, a1, a2, a3, a4, a5, a6, a7, rfl⟩
theorem bytes_len : ∀ n x, (bytes n x).length = n
  | 0, _ => rfl
  | n + 1, x => by simp [bytes, bytes_len n]

/-- The steps of math/bits.OnesCount64. -/
theorem ones (x y1 y2 y3 y4 y5 y6 : Nat) (hx : x < 18446744073709551616) (h1 : (x / 2 &&& 6148914691236517205) + (x &&& 6148914691236517205) = y1)
    (h2 : (y1 / 4 &&& 3689348814741910323) + (y1 &&& 3689348814741910323) = y2) (h3 : (y2 / 16 + y2) &&& 1085102592571150095 = y3)
    (h4 : y3 + y3 / 256 = y4) (h5 : y4 + y4 / 65536 = y5) (h6 : y5 + y5 / 4294967296 = y6) :
    y1 < 18446744073709551616 ∧ y2 / 16 + y2 < 18446744073709551616 ∧ y2 < 18446744073709551616 ∧ y3 < 18446744073709551616 ∧ y4 < 18446744073709551616 ∧ y5 < 18446744073709551616 ∧ y6 < 18446744073709551616 ∧ y6 % 128 = (bitsOf x).length ∧ y6 < 9223372036854775808 := by
  have hl := bytes_len 8 x
  have hb := bytes_lt 8 x
  have hv := val_bytes 8 x (by simpa using hx)
  have hc : (bitsOf x).length = ((bytes 8 x).map fun b => ((List.range 8).filter b.testBit).length).sum := count_bytes 8 x
  generalize hB : bytes 8 x = l at hl hb hv hc
  have e1 : y1 = val (l.map s1) := by
    rw [← step1 l hb, hl, hv, ← h1]; rfl
  have e2 : y2 = val ((l.map s1).map s2) := by
    rw [← step2 (l.map s1) (by
      intro b hb'
      obtain ⟨c, hc', rfl⟩ := List.mem_map.1 hb'
      exact (b3 c (hb c hc')).1), List.length_map, hl, ← e1, ← h2]; rfl
  have e3 : y3 = val (((l.map s1).map s2).map s3) := by
    rw [← step3 ((l.map s1).map s2) (by
      intro b hb'
      obtain ⟨c, hc', rfl⟩ := List.mem_map.1 hb'
      obtain ⟨d, hd, rfl⟩ := List.mem_map.1 hc'
      exact ⟨(b3 d (hb d hd)).2.2.1, (b3 d (hb d hd)).2.2.2.1⟩), List.length_map, List.length_map, hl, ← e2, ← h3]; rfl
  have g1 : ∀ b ∈ l, s1 b < 256 ∧ s2 (s1 b) < 256 ∧ s2 (s1 b) / 16 ≤ 4 ∧ s2 (s1 b) % 16 ≤ 4 ∧ s3 (s2 (s1 b)) = ((List.range 8).filter b.testBit).length := fun b h => b3 b (hb b h)
  have g2 : ∀ b ∈ l, s3 (s2 (s1 b)) ≤ 8 := fun b h => by
    have := (g1 b h).2.2
    unfold s3 at this ⊢
    omega
  have hs : (l.map fun b => s3 (s2 (s1 b))).sum = (bitsOf x).length := by
    rw [hc]
    congr 1
    apply List.map_congr_left
    intro b h
    exact (g1 b h).2.2.2.2
  rw [List.map_map, List.map_map] at e3
  rw [List.map_map] at e2
  obtain ⟨a0, a1, a2, a3, a4, a5, a6, a7, rfl⟩ := eight hl
  simp only [List.map_cons, List.map_nil, List.sum_cons, List.sum_nil, Function.comp] at hs e1 e2 e3
  simp only [List.mem_cons, List.not_mem_nil, or_false, forall_eq_or_imp, forall_eq] at g1 g2
  obtain ⟨k0, k1, k2, k3, k4, k5, k6, k7⟩ := g2
  obtain ⟨j0, j1, j2, j3, j4, j5, j6, j7⟩ := g1
  rw [← hs]
  clear hs hc hv hb hB hl h1 h2 h3 hx
  simp only [val] at e1 e2 e3
  generalize s3 (s2 (s1 a0)) = c0 at *
  generalize s3 (s2 (s1 a1)) = c1 at *
  generalize s3 (s2 (s1 a2)) = c2 at *
  generalize s3 (s2 (s1 a3)) = c3 at *
  generalize s3 (s2 (s1 a4)) = c4 at *
  generalize s3 (s2 (s1 a5)) = c5 at *
  generalize s3 (s2 (s1 a6)) = c6 at *
  generalize s3 (s2 (s1 a7)) = c7 at *
  have q2 : y2 ≤ 4919131752989213764 := by omega
  have q3 : y3 ≤ 578721382704613384 := by omega
  refine ⟨by omega, by omega, by omega, by omega, by omega, by omega, by omega, ?_, by omega⟩
  have r3 : y3 = c0 + 256 * (c1 + 256 * (c2 + 256 * (c3 + 256 * (c4 + 256 * (c5 + 256 * (c6 + 256 * c7)))))) := by omega
  have r4 : y4 = (c0 + c1) + 256 * ((c1 + c2) + 256 * ((c2 + c3) + 256 * ((c3 + c4) + 256 * ((c4 + c5) + 256 * ((c5 + c6) + 256 * ((c6 + c7) + 256 * c7)))))) := by
    have : y3 / 256 = c1 + 256 * (c2 + 256 * (c3 + 256 * (c4 + 256 * (c5 + 256 * (c6 + 256 * c7))))) := by omega
    omega
  clear r3 e1 e2 e3 h4 j0 j1 j2 j3 j4 j5 j6 j7 q2 q3
  have r5 : y5 = (c0 + c1 + (c2 + c3)) + 256 * ((c1 + c2 + (c3 + c4)) + 256 * ((c2 + c3 + (c4 + c5)) + 256 * ((c3 + c4 + (c5 + c6)) + 256 * ((c4 + c5 + (c6 + c7)) + 256 * ((c5 + c6 + c7) + 256 * ((c6 + c7) + 256 * c7)))))) := by
    have : y4 / 65536 = (c2 + c3) + 256 * ((c3 + c4) + 256 * ((c4 + c5) + 256 * ((c5 + c6) + 256 * ((c6 + c7) + 256 * c7)))) := by omega
    omega
  clear r4 h5
  have r6 : y5 / 4294967296 = (c4 + c5 + (c6 + c7)) + 256 * ((c5 + c6 + c7) + 256 * ((c6 + c7) + 256 * c7)) := by omega
  omega
end Go.Proofs.Ytcpmcgbjmncalaa.Words

namespace Go.Proofs.Ytcpmcgbjmncalaa.BitsWalks
open Go.RowKit Go.Proofs.Ytcpmcgbjmncalaa.Ints Go.Proofs.Ytcpmcgbjmncalaa.Words Go.Proofs.Ytcpmcgbjmncalaa.RdW

section
variable (A B : Option Addr) (n c m d : Nat) (xs ys : List Nat) (w : World)

theorem word (i : Nat) (h : RdW w A n xs) :
    Calls Try.prog 68 #[.slice A n c, .int .i64 i] w fun e w' => e = .returned (.int .u64 (wd xs i : Nat)) ∧ w = w' := by
  have hl := h.len
  have hcell := h.cell
  clear h
  by_cases hi : i < n
  · obtain ⟨b, off, rfl, hc⟩ := hcell (by omega)
    have hc1 := hc i hi
    clear hcell hc
    have hi' : (i : Int) < (n : Int) := by omega
    go_enter Try.func68, Try.ntmps68
    go_wp2
    go_ret
    exact ⟨rfl, rfl⟩
  · have hi' : ¬ (i : Int) < (n : Int) := by omega
    have ho : wd xs i = 0 := out_getD (by omega)
    go_enter Try.func68, Try.ntmps68
    go_wp2
    go_ret
    exact ⟨rfl, rfl⟩

/-- Is the number n in the set? -/
def hasI (xs : List Nat) (n : Int) : Bool := decide (0 ≤ n) && has xs n.toNat

theorem has_at_ {xs : List Nat} (hw : Ws xs) (m : Nat) : (bits .and .u64 ((wd xs (m / 64) : Nat) / 2 ^ (m % 64) : Int) 1 == 1) = hasI xs m := by
  have h := bit_one (wd xs (m / 64)) (m % 64) (hw (m / 64))
  rw [h]
  simp [hasI, has, wd]

theorem has_ (k : Int) (hk : k ≤ 9223372036854775807) (h : RdW w A n xs) :
    Calls Try.prog 50 #[.slice A n c, .int .i64 k] w fun e w' => e = .returned (.bool (hasI xs k)) ∧ w = w' := by
  by_cases h0 : k < 0
  · go_enter Try.func50, Try.ntmps50
    go_wp2
    go_ret
    exact ⟨by simp [hasI, show ¬ 0 ≤ k by omega], rfl⟩
  · obtain ⟨m, rfl⟩ := Int.eq_ofNat_of_zero_le (show 0 ≤ k by omega)
    have hv := has_at_ h.ws m
    generalize hasI xs (m : Int) = r at *
    obtain ⟨q, hq⟩ : ∃ q, m / 64 = q := ⟨_, rfl⟩
    obtain ⟨b, hb⟩ : ∃ b, m % 64 = b := ⟨_, rfl⟩
    rw [hq, hb] at hv
    have e1 : (m : Int) / 64 = (q : Int) := by omega
    have e2 : (m : Int) % 64 = (b : Int) := by omega
    have e3 : (b : Int) ≤ 64 := by omega
    clear hq hb
    go_enter Try.func50, Try.ntmps50
    go_wp2_with (go_at_call 68; refine (word _ _ _ _ _ q h).mono ?_; rintro e w' ⟨rfl, rfl⟩)
    go_ret
    exact ⟨rfl, rfl⟩

theorem refHas (k : Int) (hk : k ≤ 9223372036854775807) (hn : n ≤ maxLen) (h : RdW w A n xs) :
    Calls Try.prog 54 #[.slice A n c, .int .i64 k] w fun e w' => e = .returned (.bool (hasI xs k)) ∧ w = w' := by
  unfold maxLen at hn
  by_cases h0 : k < 0
  · go_enter Try.func54, Try.ntmps54
    go_wp2
    go_ret
    exact ⟨by simp [hasI, show ¬ 0 ≤ k by omega], rfl⟩
  · obtain ⟨m, rfl⟩ := Int.eq_ofNat_of_zero_le (show 0 ≤ k by omega)
    have hv := has_at_ h.ws m
    have hout : ¬ m / 64 < n → hasI xs (m : Int) = false := fun hge => by
      simp [hasI, has, out_getD (xs := xs) (j := m / 64) (by rw [h.len]; omega)]
    generalize hasI xs (m : Int) = r at *
    have hcell := h.cell
    obtain ⟨q, hq⟩ : ∃ q, m / 64 = q := ⟨_, rfl⟩
    obtain ⟨b, hb⟩ : ∃ b, m % 64 = b := ⟨_, rfl⟩
    rw [hq, hb] at hv
    rw [hq] at hout
    have e1 : (m : Int) / 64 = (q : Int) := by omega
    have e2 : (m : Int) % 64 = (b : Int) := by omega
    have e3 : (b : Int) ≤ 64 := by omega
    have e4 : IntKind.u64.wrap (b : Int) = (b : Int) := by rw [IntKind.wrap_u64]; omega
    clear hq hb h
    by_cases hqn : q < n
    · obtain ⟨g, off, rfl, hc⟩ := hcell (by omega)
      have hc1 := hc q hqn
      have e5 : (q : Int) < (n : Int) := by omega
      clear hcell hc hout
      go_enter Try.func54, Try.ntmps54
      go_wp2
      go_ret
      exact ⟨rfl, rfl⟩
    · have e5 : ¬ (q : Int) < (n : Int) := by omega
      have e6 := hout hqn
      subst e6
      clear hcell hout hv
      go_enter Try.func54, Try.ntmps54
      go_wp2
      go_ret
      exact ⟨rfl, rfl⟩

end
end Go.Proofs.Ytcpmcgbjmncalaa.BitsWalks

namespace Go.Proofs.Ytcpmcgbjmncalaa.Paths
open Go.RowKit Go.Proofs.Ytcpmcgbjmncalaa.Ints Go.Proofs.Ytcpmcgbjmncalaa.Mem Go.Proofs.Ytcpmcgbjmncalaa.Src Go.Proofs.Ytcpmcgbjmncalaa.Tree Go.Proofs.Ytcpmcgbjmncalaa.BitsWalks Go.Proofs.Ytcpmcgbjmncalaa.RdW

def kidN (l : List Nd) (x q : Nat) : Nat := (((l[x]?.map (fun y : Nd => y.kids)).getD [])[q]?.getD 0).toNat
/-- The nodes of a list as a regular expression over points whose sets of tests are vs. -/
def rxOf (l : List Nd) (ts : List Int) (vs : Nat → List Nat) : Rx := ⟨kindN l, fun x => kidN l x 0, fun x => kidN l x 1, fun x i => hasI (vs i) (numT ts (x : Nat))⟩
/-- A slice that reads as sets of words. -/
def RdV (w : World) (V : Option Addr) (n : Nat) (vs : Nat → List Nat) : Prop := 0 < n → ∃ b off, V = some ⟨b, off, none⟩ ∧ ∀ i, i < n → ∃ K q c, w.cell? ⟨b, off + i, none⟩ = some (.slice K q c) ∧ RdW w K q (vs i) ∧ q ≤ c ∧ c ≤ maxLen
/-- What reach is handed. -/
structure RIn (w : World) (A : Option Addr) (n : Nat) (l : List Nd) (T : Option Addr) (nt : Nat) (ts : List Int) (V : Option Addr) (nv : Nat) (vs : Nat → List Nat) : Prop where
  nodes : Nodes Tree.Any w A l
  may : mayL l = true
  len : l.length = n
  small : n ≤ 1048576
  tests : Rd .i64 w T nt ts
  nts : nt ≤ 1048576
  vals : RdV w V nv vs
  nvs : nv ≤ 1000000
/-- What reach hands back. -/
def GotTab (w : World) (nv : Nat) (m : Tb) (e : Ending) (w' : World) : Prop := ∃ B R, e = .returned (.slice (some ⟨B, 0, none⟩) nv nv) ∧ Tab w' w.heap.size B R nv m ∧ Below w.heap.size w w'
/-- A table of steps while it is being filled. -/
def stepT (k : Nat) : Tb := fun i j => decide (i < k) && decide (j = i + 1)
theorem step_next (k i j : Nat) : updT (stepT k) k (k + 1) true i j = stepT (k + 1) i j := by
  unfold updT stepT
  by_cases h : i = k ∧ j = k + 1
  · rw [if_pos h, decide_eq_true (by omega), decide_eq_true (by omega)]; rfl
  · rw [if_neg h, Bool.eq_iff_iff, Bool.and_eq_true, Bool.and_eq_true, decide_eq_true_eq, decide_eq_true_eq, decide_eq_true_eq]
    omega
set_option maxHeartbeats 8000000 in
set_option maxRecDepth 100000 in
theorem reach_step (A T V : Option Addr) (n c nt ct nv cv at_ : Nat) (l : List Nd) (ts : List Int) (vs : Nat → List Nat) (w : World) (h : RIn w A n l T nt ts V nv vs) (hat : at_ < n) (hk : kindN l at_ = 18) (f : Nat) :
    Calls Try.prog 35 #[.slice A n c, .int .i64 (at_ : Nat), .slice T nt ct, .slice V nv cv] w (GotTab w nv (reachT (rxOf l ts vs) nv (f + 1) at_)) := by
  have hl := h.len
  have hs := h.small
  have hnv := h.nvs
  have HSQ := Lib.hid (refSquare nv w hnv)
  obtain ⟨b, off, rfl, hns⟩ := h.nodes (by omega)
  obtain ⟨nd, hnd⟩ : ∃ nd, l[at_]? = some nd := ⟨_, List.getElem?_eq_getElem (by omega)⟩
  have hkd : nd.kind = 18 := by rw [← kind_of hnd]; exact hk
  have HX := Lib.hid (show ∀ W, Below w.heap.size w W → ∃ K cK, W.cell? ⟨b, off + at_ * 5, none⟩ = some (.int .i64 nd.kind) ∧ W.cell? ⟨b, off + at_ * 5 + 1, none⟩ = some (.string nd.name) ∧ W.cell? ⟨b, off + at_ * 5 + 2, none⟩ = some (.int .i64 nd.lo) ∧ W.cell? ⟨b, off + at_ * 5 + 3, none⟩ = some (.int .i64 nd.hi) ∧ W.cell? ⟨b, off + at_ * 5 + 4, none⟩ = some (.slice K nd.kids.length cK) from fun W hb => by
    obtain ⟨x0, x1, x2, x3, s0, s2, s3, s1, K, cK, x4, -⟩ := hns at_ nd hnd
    rw [Nat.mul_comm 5 at_] at x0 x1 x2 x3 x4
    exact ⟨K, cK, Mem.below_cell hb x0, Mem.below_cell hb x1, Mem.below_cell hb x2, Mem.below_cell hb x3, Mem.below_cell hb x4⟩)
  have HE := Lib.hid (show ∀ i j, i < nv → j < nv → stepT (nv - 1) i j = reachT (rxOf l ts vs) nv (f + 1) at_ i j from fun i j hi hj => by
    unfold reachT stepT
    rw [if_pos (show (rxOf l ts vs).kd at_ = 18 from hk)]
    rw [Bool.eq_iff_iff]
    simp only [Bool.and_eq_true, decide_eq_true_eq]
    omega)
  rw [hkd] at HX
  clear h hns hnd hk hkd
  go_enter Try.func35, Try.ntmps35
  go_wp2_with fail
  refine HSQ.out.mono ?_
  rintro e w1 ⟨B, R, rfl, ht, hB1⟩
  obtain ⟨K, cK, x0, x1, x2, x3, x4⟩ := HX.out _ hB1
  have HT := Lib.hid ht
  have HB1 := Lib.hid hB1
  clear ht hB1 HX HSQ
  go_wp2_with fail
  have HB2 := Lib.hid (HB1.out.alloc HB1.out.size (.cells #[.int .i64 18, .string nd.name, .int .i64 nd.lo, .int .i64 nd.hi, .slice K nd.kids.length cK] 42))
  have HT2 := Lib.hid (HT.out.below ((Below.refl _ w1).alloc (Nat.le_refl _) (.cells #[.int .i64 18, .string nd.name, .int .i64 nd.lo, .int .i64 nd.hi, .slice K nd.kids.length cK] 42)))
  clear x0 x1 x2 x3 x4
  go_loopw [12] (fun v wr => ∃ i : Nat, v = .int .i64 (i : Nat) ∧ i ≤ nv - 1 ∧ Tab wr w.heap.size B R nv (stepT i) ∧ Below w.heap.size w wr) (fun v _ => nv - (intOf v).toNat)
  case atStart => exact ⟨0, rfl, Nat.zero_le _, HT2.out.ext (fun i j _ _ => rfl), HB2.out⟩
  case round =>
    obtain ⟨i, rfl, hin, ht, hB⟩ := hrel
    have HTi := Lib.hid ht
    have HB := Lib.hid hB
    by_cases hlt : i + 1 < nv
    · have z1 := ht.outer (show i < nv by omega)
      have z2 := ht.inner (show i < nv by omega) hlt
      have f1 := own_fz (ht.row i (by omega)) (i + 1)
      have HN := Lib.hid ((ht.set (show i < nv by omega) hlt true).ext (fun a b _ _ => step_next i a b))
      have HBN := Lib.hid (hB.setCell (p := ⟨R i, i + 1, none⟩) ((ht.row i (by omega)).lt (R i) rfl).1 (.bool true))
      clear ht hB
      go_wp2_with fail
      go_roundw
      case rel => exact ⟨i + 1, by simp, by omega, HN.out, HBN.out⟩
      case measure => (show nv - (i + 1) < nv - i; omega)
    · obtain rfl : i = nv - 1 := by omega
      have HX := Lib.hid (HTi.out.ext HE.out)
      clear ht hB
      go_wp2_with fail
      go_ret
      exact ⟨B, R, rfl, HX.out, HB.out⟩
end Go.Proofs.Ytcpmcgbjmncalaa.Paths
