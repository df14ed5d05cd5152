/-
  Adler's sum as plain arithmetic over lists of integers: what is said of it without any program. By an AI agent.
  The walks of package sum and of its reference: what each call returns, by the plain arithmetic. By an AI agent.
  The walks of Sum, landed and by the reference. By an AI agent.
-/
import Derived.Test.YtbbjoffknoaoiaaGScanAny1
import Derived.Test.YtbbjoffknoaoiaaChecked
import Derived.WalkKit
import Derived.WalkSpells
import Derived.WalkLawsBesides
import Derived.Below
import Derived.Lib.Hide
import Derived.Lib.SlBytesConst
namespace Go.Proofs.Ytbbjoffknoaoiaa.SumMath

/-- the low half -/
def adl : Int → List Int → Int
  | a, [] => a
  | a, x :: l => adl ((a + x) % 65521) l
/-- the high half -/
def adh : Int → Int → List Int → Int
  | _, c, [] => c
  | a, c, x :: l => adh ((a + x) % 65521) ((c + (a + x) % 65521) % 65521) l
/-- the sum that goes on from s -/
def adn (s : Int) (l : List Int) : Int := adh (s % 65536 % 65521) (s / 65536 % 65521) l * 65536 + adl (s % 65536 % 65521) l

theorem adl_append (l m : List Int) : ∀ a, adl a (l ++ m) = adl (adl a l) m := by
  induction l with
  | nil => intro a; rfl
  | cons x l ih => intro a; exact ih _
theorem adh_append (l m : List Int) : ∀ a c, adh a c (l ++ m) = adh (adl a l) (adh a c l) m := by
  induction l with
  | nil => intro a c; rfl
  | cons x l ih => intro a c; exact ih _ _
theorem adl_snoc (l : List Int) (a x : Int) : adl a (l ++ [x]) = (adl a l + x) % 65521 := by rw [adl_append]; rfl
theorem adh_snoc (l : List Int) (a c x : Int) : adh a c (l ++ [x]) = (adh a c l + (adl a l + x) % 65521) % 65521 := by rw [adh_append]; rfl
theorem adl_bd (l : List Int) : ∀ a, 0 ≤ a → a < 65521 → 0 ≤ adl a l ∧ adl a l < 65521 := by
  induction l with
  | nil => intro a h0 h1; exact ⟨h0, h1⟩
  | cons x l ih => intro a _ _; exact ih _ (by omega) (by omega)
theorem adh_bd (l : List Int) : ∀ a c, 0 ≤ c → c < 65521 → 0 ≤ adh a c l ∧ adh a c l < 65521 := by
  induction l with
  | nil => intro a c h0 h1; exact ⟨h0, h1⟩
  | cons x l ih => intro a c _ _; exact ih _ _ (by omega) (by omega)
theorem start_bd (s : Int) : 0 ≤ s % 65536 % 65521 ∧ s % 65536 % 65521 < 65521 ∧ 0 ≤ s / 65536 % 65521 ∧ s / 65536 % 65521 < 65521 := by omega
theorem adn_bd (s : Int) (l : List Int) : 0 ≤ adn s l ∧ adn s l ≤ 4294967295 := by
  obtain ⟨h1, h2, h3, h4⟩ := start_bd s
  have a := adl_bd l _ h1 h2
  have c := adh_bd l (s % 65536 % 65521) _ h3 h4
  unfold adn; omega
theorem adn_low (s : Int) (l : List Int) : adn s l % 65536 % 65521 = adl (s % 65536 % 65521) l := by
  obtain ⟨h1, h2, h3, h4⟩ := start_bd s
  have a := adl_bd l _ h1 h2
  unfold adn; omega
theorem adn_high (s : Int) (l : List Int) : adn s l / 65536 % 65521 = adh (s % 65536 % 65521) (s / 65536 % 65521) l := by
  obtain ⟨h1, h2, h3, h4⟩ := start_bd s
  have a := adl_bd l _ h1 h2
  have c := adh_bd l (s % 65536 % 65521) _ h3 h4
  unfold adn; omega
/-- A SUM GOES ON. -/
theorem adn_append (s : Int) (l m : List Int) : adn (adn s l) m = adn s (l ++ m) := by
  have e1 := adn_low s l
  have e2 := adn_high s l
  rw [adn, e1, e2, adn, adl_append, adh_append]

theorem adl_inj (l : List Int) : ∀ a b, 0 ≤ a → a < 65521 → 0 ≤ b → b < 65521 → adl a l = adl b l → a = b := by
  induction l with
  | nil => intro a b _ _ _ _ h; exact h
  | cons x l ih =>
    intro a b h1 h2 h3 h4 h
    have := ih ((a + x) % 65521) ((b + x) % 65521) (by omega) (by omega) (by omega) (by omega) h
    omega
theorem adh_inj (l : List Int) : ∀ a c d, 0 ≤ c → c < 65521 → 0 ≤ d → d < 65521 → adh a c l = adh a d l → c = d := by
  induction l with
  | nil => intro a c d _ _ _ _ h; exact h
  | cons x l ih =>
    intro a c d h1 h2 h3 h4 h
    have := ih ((a + x) % 65521) ((c + (a + x) % 65521) % 65521) ((d + (a + x) % 65521) % 65521) (by omega) (by omega) (by omega) (by omega) h
    omega
theorem adn_parts (s : Int) (l m : List Int) (h : adn s l = adn s m) :
    adl (s % 65536 % 65521) l = adl (s % 65536 % 65521) m ∧ adh (s % 65536 % 65521) (s / 65536 % 65521) l = adh (s % 65536 % 65521) (s / 65536 % 65521) m := by
  rw [← adn_low s l, ← adn_low s m, ← adn_high s l, ← adn_high s m, h]
  exact ⟨rfl, rfl⟩
/-- ONE BYTE CHANGED IS TOLD. -/
theorem adn_changed (s x y : Int) (p t : List Int) (hx : 0 ≤ x ∧ x ≤ 255) (hy : 0 ≤ y ∧ y ≤ 255) (h : adn s (p ++ x :: t) = adn s (p ++ y :: t)) : x = y := by
  have e := (adn_parts s _ _ h).1
  rw [adl_append, adl_append] at e
  obtain ⟨h1, h2, _, _⟩ := start_bd s
  have a := adl_bd p _ h1 h2
  have := adl_inj t _ _ (by omega) (by omega) (by omega) (by omega) e
  omega
/-- TWO SIDE BY SIDE THAT CHANGE PLACES ARE TOLD. -/
theorem adn_swapped (s x y : Int) (p t : List Int) (hx : 0 ≤ x ∧ x ≤ 255) (hy : 0 ≤ y ∧ y ≤ 255) (h : adn s (p ++ x :: y :: t) = adn s (p ++ y :: x :: t)) : x = y := by
  have e := (adn_parts s _ _ h).2
  rw [adh_append, adh_append] at e
  obtain ⟨h1, h2, h3, h4⟩ := start_bd s
  have a := adl_bd p _ h1 h2
  have c := adh_bd p (s % 65536 % 65521) _ h3 h4
  generalize adl (s % 65536 % 65521) p = A at *
  generalize adh (s % 65536 % 65521) (s / 65536 % 65521) p = C at *
  have e' : adh ((A + x) % 65521 + y) ((C + (A + x) % 65521) % 65521) [] = adh ((A + x) % 65521 + y) ((C + (A + x) % 65521) % 65521) [] := rfl
  clear e'
  have q : ((A + x) % 65521 + y) % 65521 = ((A + y) % 65521 + x) % 65521 := by omega
  have e2 : adh (((A + x) % 65521 + y) % 65521) (((C + (A + x) % 65521) % 65521 + ((A + x) % 65521 + y) % 65521) % 65521) t
      = adh (((A + y) % 65521 + x) % 65521) (((C + (A + y) % 65521) % 65521 + ((A + y) % 65521 + x) % 65521) % 65521) t := e
  rw [← q] at e2
  have := adh_inj t _ _ _ (by omega) (by omega) (by omega) (by omega) e2
  omega

/-! ### The sum by blocks: remainders are taken late. -/
/-- Within a block, behind k of its bytes: a and c are right but for multiples of 65521, and small enough. -/
def Inn (A C : Int) (k : Nat) (l : List Int) (a c : Int) : Prop :=
  0 ≤ a ∧ a ≤ 65520 + 255 * (k : Int) ∧ 0 ≤ c ∧ 2 * c ≤ 131040 + 131040 * (k : Int) + 255 * ((k : Int) * (k : Int) + (k : Int)) ∧ a % 65521 = adl A l ∧ c % 65521 = adh A C l
theorem inn_start (A C : Int) (l : List Int) (h1 : 0 ≤ A) (h2 : A < 65521) (h3 : 0 ≤ C) (h4 : C < 65521) : Inn A C 0 l (adl A l) (adh A C l) := by
  have a := adl_bd l _ h1 h2
  have c := adh_bd l A _ h3 h4
  refine ⟨a.1, by omega, c.1, by simp; omega, by omega, by omega⟩
theorem inn_small {A C : Int} {k : Nat} {l : List Int} {a c x : Int} (h : Inn A C k l a c) (hk : k < 5552) (hx : 0 ≤ x ∧ x ≤ 255) :
    0 ≤ a + x ∧ a + x ≤ 4294967295 ∧ 0 ≤ c + (a + x) ∧ c + (a + x) ≤ 4294967295 := by
  obtain ⟨h1, h2, h3, h4, _, _⟩ := h
  have hk2 : (k : Int) * (k : Int) ≤ 5551 * (k : Int) := Int.mul_le_mul_of_nonneg_right (by omega) (by omega)
  omega
theorem inn_step {A C : Int} {k : Nat} {l : List Int} {a c x : Int} (h : Inn A C k l a c) (hx : 0 ≤ x ∧ x ≤ 255) : Inn A C (k + 1) (l ++ [x]) (a + x) (c + (a + x)) := by
  obtain ⟨h1, h2, h3, h4, h5, h6⟩ := h
  have e : ((k + 1 : Nat) : Int) * ((k + 1 : Nat) : Int) = (k : Int) * (k : Int) + 2 * (k : Int) + 1 := by
    have : ((k + 1 : Nat) : Int) = (k : Int) + 1 := by omega
    rw [this, Int.mul_add, Int.add_mul]; omega
  refine ⟨by omega, by omega, by omega, by rw [e]; omega, ?_, ?_⟩
  · rw [adl_snoc]; omega
  · rw [adh_snoc]; omega
theorem inn_now {A C : Int} {k : Nat} {l : List Int} {a c : Int} (h : Inn A C k l a c) (hk : k ≤ 5552) : 0 ≤ a ∧ a ≤ 4294967295 ∧ 0 ≤ c ∧ c ≤ 4294967295 := by
  obtain ⟨h1, h2, h3, h4, _, _⟩ := h
  have hk2 : (k : Int) * (k : Int) ≤ 5552 * (k : Int) := Int.mul_le_mul_of_nonneg_right (by omega) (by omega)
  omega

/-! ### The sum by the lengths -/
/-- what stands behind k of n bytes: the low one is exact, the high one right but for multiples -/
theorem adds_step (n k : Nat) (c z A C : Int) (h : (c - (C + ((n : Int) - k) * A)) % 65521 = 0) :
    (c + z * ((n : Int) - k) - ((C + (A + z) % 65521) % 65521 + ((n : Int) - ((k + 1 : Nat) : Int)) * ((A + z) % 65521))) % 65521 = 0 := by
  obtain ⟨q, hq⟩ : ∃ q, (A + z) % 65521 = A + z - 65521 * q := ⟨(A + z) / 65521, by omega⟩
  rw [hq]
  have e1 : ((n : Int) - ((k + 1 : Nat) : Int)) * (A + z - 65521 * q) = ((n : Int) - k) * A + z * ((n : Int) - k) - 65521 * (((n : Int) - k) * q) - (A + z - 65521 * q) := by
    have : ((n : Int) - ((k + 1 : Nat) : Int)) = ((n : Int) - k) - 1 := by omega
    rw [this, Int.sub_mul, Int.one_mul, Int.mul_sub, Int.mul_add, Int.mul_comm z, Int.mul_left_comm]
  rw [e1]
  omega
end Go.Proofs.Ytbbjoffknoaoiaa.SumMath

namespace Go.Proofs.Ytbbjoffknoaoiaa.SumWalks
open Go.RowKit Go.Proofs.Ytbbjoffknoaoiaa.SumMath Go.Proofs.Ytbbjoffknoaoiaa.Ints

set_option maxHeartbeats 400000 in
theorem refMore (s : Int) (A : Option Addr) (n c : Nat) (zs : List Int) (w : World) (hs0 : 0 ≤ s) (hs : s ≤ 4294967295) (hn : n ≤ maxLen) (h : Rd .u8 w A n zs) :
    Calls Try.prog 67 #[.int .u32 s, .slice A n c] w fun e w' => e = .returned (.int .u32 (adn s zs)) ∧ w = w' := by
  unfold maxLen at hn
  have hl := h.len
  have hbd := h.u8
  have hcell := h.cell
  clear h
  obtain ⟨h1, h2, h3, h4⟩ := start_bd s
  have HL := Lib.hid hl
  clear hl
  go_enter Try.func67, Try.ntmps67
  go_wp2
  go_loop [5, 6, 16] (fun a c i => ∃ k : Nat, k ≤ n ∧ i = .int .i64 k ∧ a = .int .u32 (adl (s % 65536 % 65521) (zs.take k)) ∧ c = .int .u32 (adh (s % 65536 % 65521) (s / 65536 % 65521) (zs.take k))) (fun _ _ i => n - (intOf i).toNat)
  case atStart => exact ⟨0, Nat.zero_le _, rfl, rfl, rfl⟩
  case round =>
    obtain ⟨k, hk, rfl, rfl, rfl⟩ := hrel
    by_cases hlt : k < n
    · obtain ⟨b, off, rfl, hc⟩ := hcell (by omega)
      have hc1 := hc k hlt
      have hb1 := hbd k hlt
      clear hcell hbd hc
      have hAd := adl_bd (zs.take k) _ h1 h2
      have hCd := adh_bd (zs.take k) (s % 65536 % 65521) _ h3 h4
      have HS := Lib.hid (take_snoc zs k (by rw [HL.out]; exact hlt))
      go_wp2
      go_round
      case rel => exact ⟨k + 1, by omega, by go_num, by rw [HS.out, adl_snoc], by rw [HS.out, adh_snoc]⟩
      case measure => simp [intOf]; omega
    · have hAd := adl_bd (zs.take k) _ h1 h2
      have hCd := adh_bd (zs.take k) (s % 65536 % 65521) _ h3 h4
      go_wp2
      go_ret
      exact ⟨ret_int (by rw [List.take_of_length_le (by rw [HL.out]; omega)]; rfl), rfl⟩

set_option maxHeartbeats 400000 in
set_option maxRecDepth 100000 in
theorem sumMore (s : Int) (A : Option Addr) (n c : Nat) (zs : List Int) (w : World) (hs0 : 0 ≤ s) (hs : s ≤ 4294967295) (hn : n ≤ c) (hc : c ≤ maxLen) (h : Rd .u8 w A n zs) :
    Calls Try.prog 77 #[.int .u32 s, .slice A n c] w fun e w' => e = .returned (.int .u32 (adn s zs)) ∧ w = w' := by
  unfold maxLen at hc
  have hl := h.len
  have hbd := h.u8
  have hcell := h.cell
  clear h
  obtain ⟨h1, h2, h3, h4⟩ := start_bd s
  have HL := Lib.hid hl
  clear hl
  go_enter Try.func77, Try.ntmps77
  go_wp2
  go_loop [1, 5, 6] (fun v a h => ∃ (j : Nat) (A' : Option Addr), j ≤ n ∧ v = .slice A' (n - j) (c - j) ∧ (j < n → ∃ b off, A' = some ⟨b, off, none⟩ ∧ ∀ k, k < n - j → w.cell? ⟨b, off + k, none⟩ = some (.int .u8 (zs[j + k]?.getD 0))) ∧
      a = .int .u32 (adl (s % 65536 % 65521) (zs.take j)) ∧ h = .int .u32 (adh (s % 65536 % 65521) (s / 65536 % 65521) (zs.take j))) (fun v _ _ => match v with | .slice _ l _ => l | _ => 0)
  case atStart => exact ⟨0, A, Nat.zero_le _, rfl, by simpa using hcell, rfl, rfl⟩
  case round =>
    obtain ⟨j, A', hj, rfl, hA, rfl, rfl⟩ := hrel
    clear hcell
    by_cases hlt : j < n
    · obtain ⟨b, off, rfl, hcell⟩ := hA hlt
      clear hA
      have hp : (0 : Int) < ((n - j : Nat) : Int) := by omega
      have hin := inn_start _ _ (zs.take j) h1 h2 h3 h4
      have hz : zs.length = n := HL.out
      obtain ⟨m, hm1, hm2, hm3, hm4, hm5⟩ : ∃ m : Nat, m ≤ n - j ∧ m ≤ 5552 ∧ (n - j ≤ 5552 → n - j ≤ m) ∧ (¬ n - j ≤ 5552 → 5552 ≤ m) ∧ 0 < m := by
        by_cases h5 : n - j ≤ 5552
        · exact ⟨n - j, by omega, by omega, by omega, by omega, by omega⟩
        · exact ⟨5552, by omega, by omega, by omega, by omega, by omega⟩
      by_cases h5 : n - j ≤ 5552
      all_goals
        have h5' : (((n - j : Nat) : Int) ≤ 5552) = (n - j ≤ 5552) := by apply propext; omega
        clear h5'
        go_wp2
        go_loop [5, 6, 26] (fun a h i => ∃ (k : Nat) (av hv : Int), k ≤ m ∧ i = .int .i64 k ∧ a = .int .u32 av ∧ h = .int .u32 hv ∧ Inn (s % 65536 % 65521) (s / 65536 % 65521) k (zs.take (j + k)) av hv) (fun _ _ i => m - (intOf i).toNat)
        case atStart => exact ⟨0, _, _, Nat.zero_le _, rfl, rfl, rfl, hin⟩
        case round =>
          obtain ⟨k, av, hv, hk, rfl, rfl, rfl, hi⟩ := hrel
          clear hin
          by_cases hkm : k < m
          · have hc1 := hcell k (by omega)
            have hb1 := hbd (j + k) (by omega)
            have hsm := inn_small hi (by omega) hb1
            have HI := Lib.hid (inn_step hi hb1)
            have HS := Lib.hid (take_snoc zs (j + k) (by omega))
            clear hcell hbd hz hi
            go_wp2
            go_round
            case rel => exact ⟨k + 1, _, _, by omega, by go_num, rfl, rfl, by rw [← Nat.add_assoc, HS.out]; exact HI.out⟩
            case measure => simp [intOf]; omega
          · have hkm' : k = m := by omega
            subst hkm'
            have hsm := inn_now hi (by omega)
            have HI := Lib.hid hi
            clear hi hbd hz
            go_wp2
            go_round
            case rel =>
              have hv1 := HI.out.2.2.2.2.1
              have hv2 := HI.out.2.2.2.2.2
              first
                | (have hkn : n - j = k := by omega
                   exact ⟨j + k, _, by omega, slice_eq rfl (by omega) (by omega), fun h => absurd h (by omega), int_eq hv1, int_eq hv2⟩)
                | (have hkn : 5552 = k := by omega
                   exact ⟨j + k, _, by omega, slice_eq rfl (by omega) (by omega), fun h => ⟨_, _, rfl, fun i hi => by
                     have := hcell (5552 + i) (by omega)
                     rw [← Nat.add_assoc] at this
                     rw [this, ← hkn, Nat.add_assoc]⟩, int_eq hv1, int_eq hv2⟩)
            case measure => show _ < n - j; first | (show n - j - 5552 < n - j; omega) | (show 0 < n - j; omega)
    · have hjn : j = n := by omega
      have HJ := Lib.hid hjn
      clear hjn
      go_wp2
      go_ret
      exact ⟨ret_int (by rw [HJ.out, List.take_of_length_le (by rw [HL.out]; omega)]; have := adn_bd s zs; unfold adn at *; omega), rfl⟩

end Go.Proofs.Ytbbjoffknoaoiaa.SumWalks

namespace Go.Proofs.Ytbbjoffknoaoiaa.SumWalks
open Go.RowKit Go.Proofs.Ytbbjoffknoaoiaa.SumMath Go.Proofs.Ytbbjoffknoaoiaa.Ints

theorem sumSum (A : Option Addr) (n c : Nat) (zs : List Int) (w : World) (hn : n ≤ c) (hc : c ≤ maxLen) (h : Rd .u8 w A n zs) :
    Calls Try.prog 68 #[.slice A n c] w fun e w' => e = .returned (.int .u32 (adn 1 zs)) ∧ w = w' := by
  go_enter Try.func68, Try.ntmps68
  go_wp2_with (go_at_call 77; refine (sumMore 1 _ n c zs _ (by omega) (by omega) hn hc h).mono ?_; rintro e w' ⟨rfl, rfl⟩)
  go_ret
  exact ⟨rfl, rfl⟩

theorem refSum (A : Option Addr) (n c : Nat) (zs : List Int) (w : World) (hn : n ≤ maxLen) (h : Rd .u8 w A n zs) :
    Calls Try.prog 49 #[.slice A n c] w fun e w' => e = .returned (.int .u32 (adn 1 zs)) ∧ w = w' := by
  go_enter Try.func49, Try.ntmps49
  go_wp2_with (go_at_call 67; refine (refMore 1 _ n c zs _ (by omega) (by omega) hn h).mono ?_; rintro e w' ⟨rfl, rfl⟩)
  go_ret
  exact ⟨rfl, rfl⟩

end Go.Proofs.Ytbbjoffknoaoiaa.SumWalks
