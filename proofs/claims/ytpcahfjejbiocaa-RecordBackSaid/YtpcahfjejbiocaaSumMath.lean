/-
  Adler's sum as plain arithmetic over lists of integers: what is said of it without any program. By an AI agent.
-/
namespace Go.Proofs.Ytpcahfjejbiocaa.SumMath

/-- the low half -/
def adl : Int → List Int → Int
  | a, [] => a
  | a, x :: l => adl ((a + x) % 65521) l
/-- the high half -/
def adh : Int → Int → List Int → Int
  | _, c, [] => c
  | a, c, x :: l => adh ((a + x) % 65521) ((c + (a + x) % 65521) % 65521) l
/-- the sum that goes on from s -/
def adn (s : Int) (l : List Int) : Int := adh (s % 65536 % 65521) (s / 65536 % 65521) l * 65536 + adl (s % 65536 % 65521) l

theorem adl_append (l m : List Int) : ∀ a, adl a (l ++ m) = adl (adl a l) m := by
  induction l with
  | nil => intro a; rfl
  | cons x l ih => intro a; exact ih _
theorem adh_append (l m : List Int) : ∀ a c, adh a c (l ++ m) = adh (adl a l) (adh a c l) m := by
  induction l with
  | nil => intro a c; rfl
  | cons x l ih => intro a c; exact ih _ _
theorem adl_snoc (l : List Int) (a x : Int) : adl a (l ++ [x]) = (adl a l + x) % 65521 := by rw [adl_append]; rfl
theorem adh_snoc (l : List Int) (a c x : Int) : adh a c (l ++ [x]) = (adh a c l + (adl a l + x) % 65521) % 65521 := by rw [adh_append]; rfl
theorem adl_bd (l : List Int) : ∀ a, 0 ≤ a → a < 65521 → 0 ≤ adl a l ∧ adl a l < 65521 := by
  induction l with
  | nil => intro a h0 h1; exact ⟨h0, h1⟩
  | cons x l ih => intro a _ _; exact ih _ (by omega) (by omega)
theorem adh_bd (l : List Int) : ∀ a c, 0 ≤ c → c < 65521 → 0 ≤ adh a c l ∧ adh a c l < 65521 := by
  induction l with
  | nil => intro a c h0 h1; exact ⟨h0, h1⟩
  | cons x l ih => intro a c _ _; exact ih _ _ (by omega) (by omega)
theorem start_bd (s : Int) : 0 ≤ s % 65536 % 65521 ∧ s % 65536 % 65521 < 65521 ∧ 0 ≤ s / 65536 % 65521 ∧ s / 65536 % 65521 < 65521 := by omega
theorem adn_bd (s : Int) (l : List Int) : 0 ≤ adn s l ∧ adn s l ≤ 4294967295 := by
  obtain ⟨h1, h2, h3, h4⟩ := start_bd s
  have a := adl_bd l _ h1 h2
  have c := adh_bd l (s % 65536 % 65521) _ h3 h4
  unfold adn; omega
theorem adn_low (s : Int) (l : List Int) : adn s l % 65536 % 65521 = adl (s % 65536 % 65521) l := by
  obtain ⟨h1, h2, h3, h4⟩ := start_bd s
  have a := adl_bd l _ h1 h2
  unfold adn; omega
theorem adn_high (s : Int) (l : List Int) : adn s l / 65536 % 65521 = adh (s % 65536 % 65521) (s / 65536 % 65521) l := by
  obtain ⟨h1, h2, h3, h4⟩ := start_bd s
  have a := adl_bd l _ h1 h2
  have c := adh_bd l (s % 65536 % 65521) _ h3 h4
  unfold adn; omega
/-- A SUM GOES ON. -/
theorem adn_append (s : Int) (l m : List Int) : adn (adn s l) m = adn s (l ++ m) := by
  have e1 := adn_low s l
  have e2 := adn_high s l
  rw [adn, e1, e2, adn, adl_append, adh_append]

theorem adl_inj (l : List Int) : ∀ a b, 0 ≤ a → a < 65521 → 0 ≤ b → b < 65521 → adl a l = adl b l → a = b := by
  induction l with
  | nil => intro a b _ _ _ _ h; exact h
  | cons x l ih =>
    intro a b h1 h2 h3 h4 h
    have := ih ((a + x) % 65521) ((b + x) % 65521) (by omega) (by omega) (by omega) (by omega) h
    omega
theorem adh_inj (l : List Int) : ∀ a c d, 0 ≤ c → c < 65521 → 0 ≤ d → d < 65521 → adh a c l = adh a d l → c = d := by
  induction l with
  | nil => intro a c d _ _ _ _ h; exact h
  | cons x l ih =>
    intro a c d h1 h2 h3 h4 h
    have := ih ((a + x) % 65521) ((c + (a + x) % 65521) % 65521) ((d + (a + x) % 65521) % 65521) (by omega) (by omega) (by omega) (by omega) h
    omega
theorem adn_parts (s : Int) (l m : List Int) (h : adn s l = adn s m) :
    adl (s % 65536 % 65521) l = adl (s % 65536 % 65521) m ∧ adh (s % 65536 % 65521) (s / 65536 % 65521) l = adh (s % 65536 % 65521) (s / 65536 % 65521) m := by
  rw [← adn_low s l, ← adn_low s m, ← adn_high s l, ← adn_high s m, h]
  exact ⟨rfl, rfl⟩
/-- ONE BYTE CHANGED IS TOLD. -/
theorem adn_changed (s x y : Int) (p t : List Int) (hx : 0 ≤ x ∧ x ≤ 255) (hy : 0 ≤ y ∧ y ≤ 255) (h : adn s (p ++ x :: t) = adn s (p ++ y :: t)) : x = y := by
  have e := (adn_parts s _ _ h).1
  rw [adl_append, adl_append] at e
  obtain ⟨h1, h2, _, _⟩ := start_bd s
  have a := adl_bd p _ h1 h2
  have := adl_inj t _ _ (by omega) (by omega) (by omega) (by omega) e
  omega
/-- TWO SIDE BY SIDE THAT CHANGE PLACES ARE TOLD. -/
theorem adn_swapped (s x y : Int) (p t : List Int) (hx : 0 ≤ x ∧ x ≤ 255) (hy : 0 ≤ y ∧ y ≤ 255) (h : adn s (p ++ x :: y :: t) = adn s (p ++ y :: x :: t)) : x = y := by
  have e := (adn_parts s _ _ h).2
  rw [adh_append, adh_append] at e
  obtain ⟨h1, h2, h3, h4⟩ := start_bd s
  have a := adl_bd p _ h1 h2
  have c := adh_bd p (s % 65536 % 65521) _ h3 h4
  generalize adl (s % 65536 % 65521) p = A at *
  generalize adh (s % 65536 % 65521) (s / 65536 % 65521) p = C at *
  have e' : adh ((A + x) % 65521 + y) ((C + (A + x) % 65521) % 65521) [] = adh ((A + x) % 65521 + y) ((C + (A + x) % 65521) % 65521) [] := rfl
  clear e'
  have q : ((A + x) % 65521 + y) % 65521 = ((A + y) % 65521 + x) % 65521 := by omega
  have e2 : adh (((A + x) % 65521 + y) % 65521) (((C + (A + x) % 65521) % 65521 + ((A + x) % 65521 + y) % 65521) % 65521) t
      = adh (((A + y) % 65521 + x) % 65521) (((C + (A + y) % 65521) % 65521 + ((A + y) % 65521 + x) % 65521) % 65521) t := e
  rw [← q] at e2
  have := adh_inj t _ _ _ (by omega) (by omega) (by omega) (by omega) e2
  omega

/-! ### The sum by blocks: remainders are taken late. -/
/-- Within a block, behind k of its bytes: a and c are right but for multiples of 65521, and small enough. -/
def Inn (A C : Int) (k : Nat) (l : List Int) (a c : Int) : Prop :=
  0 ≤ a ∧ a ≤ 65520 + 255 * (k : Int) ∧ 0 ≤ c ∧ 2 * c ≤ 131040 + 131040 * (k : Int) + 255 * ((k : Int) * (k : Int) + (k : Int)) ∧ a % 65521 = adl A l ∧ c % 65521 = adh A C l
theorem inn_start (A C : Int) (l : List Int) (h1 : 0 ≤ A) (h2 : A < 65521) (h3 : 0 ≤ C) (h4 : C < 65521) : Inn A C 0 l (adl A l) (adh A C l) := by
  have a := adl_bd l _ h1 h2
  have c := adh_bd l A _ h3 h4
  refine ⟨a.1, by omega, c.1, by simp; omega, by omega, by omega⟩
theorem inn_small {A C : Int} {k : Nat} {l : List Int} {a c x : Int} (h : Inn A C k l a c) (hk : k < 5552) (hx : 0 ≤ x ∧ x ≤ 255) :
    0 ≤ a + x ∧ a + x ≤ 4294967295 ∧ 0 ≤ c + (a + x) ∧ c + (a + x) ≤ 4294967295 := by
  obtain ⟨h1, h2, h3, h4, _, _⟩ := h
  have hk2 : (k : Int) * (k : Int) ≤ 5551 * (k : Int) := Int.mul_le_mul_of_nonneg_right (by omega) (by omega)
  omega
theorem inn_step {A C : Int} {k : Nat} {l : List Int} {a c x : Int} (h : Inn A C k l a c) (hx : 0 ≤ x ∧ x ≤ 255) : Inn A C (k + 1) (l ++ [x]) (a + x) (c + (a + x)) := by
  obtain ⟨h1, h2, h3, h4, h5, h6⟩ := h
  have e : ((k + 1 : Nat) : Int) * ((k + 1 : Nat) : Int) = (k : Int) * (k : Int) + 2 * (k : Int) + 1 := by
    have : ((k + 1 : Nat) : Int) = (k : Int) + 1 := by omega
    rw [this, Int.mul_add, Int.add_mul]; omega
  refine ⟨by omega, by omega, by omega, by rw [e]; omega, ?_, ?_⟩
  · rw [adl_snoc]; omega
  · rw [adh_snoc]; omega
theorem inn_now {A C : Int} {k : Nat} {l : List Int} {a c : Int} (h : Inn A C k l a c) (hk : k ≤ 5552) : 0 ≤ a ∧ a ≤ 4294967295 ∧ 0 ≤ c ∧ c ≤ 4294967295 := by
  obtain ⟨h1, h2, h3, h4, _, _⟩ := h
  have hk2 : (k : Int) * (k : Int) ≤ 5552 * (k : Int) := Int.mul_le_mul_of_nonneg_right (by omega) (by omega)
  omega

/-! ### The sum by the lengths -/
/-- what stands behind k of n bytes: the low one is exact, the high one right but for multiples -/
theorem adds_step (n k : Nat) (c z A C : Int) (h : (c - (C + ((n : Int) - k) * A)) % 65521 = 0) :
    (c + z * ((n : Int) - k) - ((C + (A + z) % 65521) % 65521 + ((n : Int) - ((k + 1 : Nat) : Int)) * ((A + z) % 65521))) % 65521 = 0 := by
  obtain ⟨q, hq⟩ : ∃ q, (A + z) % 65521 = A + z - 65521 * q := ⟨(A + z) / 65521, by omega⟩
  rw [hq]
  have e1 : ((n : Int) - ((k + 1 : Nat) : Int)) * (A + z - 65521 * q) = ((n : Int) - k) * A + z * ((n : Int) - k) - 65521 * (((n : Int) - k) * q) - (A + z - 65521 * q) := by
    have : ((n : Int) - ((k + 1 : Nat) : Int)) = ((n : Int) - k) - 1 := by omega
    rw [this, Int.sub_mul, Int.one_mul, Int.mul_sub, Int.mul_add, Int.mul_comm z, Int.mul_left_comm]
  rw [e1]
  omega
end Go.Proofs.Ytpcahfjejbiocaa.SumMath
