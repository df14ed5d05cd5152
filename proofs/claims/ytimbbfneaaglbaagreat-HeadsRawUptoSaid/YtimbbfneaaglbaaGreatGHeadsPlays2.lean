/-
  Ids as plain lists: which may be. By an AI agent.
  Adler's sum as plain arithmetic over lists of integers: what is said of it without any program. By an AI agent.
  The walks of package sum and of its reference: what each call returns, by the plain arithmetic. By an AI agent.
  The walks of Sum, landed and by the reference. By an AI agent.
  The walks of number, bytes.Clone, Put and Right, and of their references: the law SumPuts. By an AI agent.
-/
import Derived.Test.YtimbbfneaaglbaaGreatGHeadsPlays1
import Derived.Test.YtimbbfneaaglbaaGreatChecked
import Derived.WalkKit
import Derived.WalkSpells
import Derived.WalkLawsBesides
import Derived.Below
import Derived.Lib.Hide
import Derived.Lib.SlBytesConst
import Derived.RegionTactic
import Derived.Deep.RegionHeld3
import Derived.BigQuiet
import Derived.Deep.QuietTactic
import Derived.IntWalk
import Derived.Laws.BytesArg
import Derived.WalkSmall
namespace Go.Proofs.YtimbbfneaaglbaaGreat.Trace

/-- The i-th id is one, and greater than the one before it. -/
def IdGood (l : List Int) (props : Int) (i : Nat) : Prop := 0 ≤ l.getD i 0 ∧ l.getD i 0 < props ∧ (0 < i → l.getD (i - 1) 0 < l.getD i 0)
instance (l : List Int) (props : Int) (i : Nat) : Decidable (IdGood l props i) := by unfold IdGood; infer_instance
def idsOk (l : List Int) (props : Int) : Bool := decide (∀ i, i < l.length → IdGood l props i)
theorem ids_yes {l : List Int} {p : Int} (h : ∀ i, i < l.length → IdGood l p i) : idsOk l p = true := decide_eq_true h
theorem ids_no {l : List Int} {p : Int} {i : Nat} (hi : i < l.length) (h : ¬ IdGood l p i) : idsOk l p = false := decide_eq_false fun e => h (e i hi)
theorem good_more {p : Nat → Prop} {k : Nat} (h : ∀ i, i < k → p i) (hk : p k) : ∀ i, i < k + 1 → p i := fun i hi => by
  by_cases e : i = k
  · exact e ▸ hk
  · exact h i (by omega)
theorem idsOk_iff (l : List Int) (p : Int) : idsOk l p = true ↔ ∀ i, i < l.length → IdGood l p i := decide_eq_true_iff
theorem getD_at {α : Type} {l : List α} {i : Nat} {x d : α} (h : l[i]? = some x) : l.getD i d = x := by simp [List.getD, h]
theorem getD_take {α : Type} (l : List α) (k i : Nat) (d : α) (h : i < k) : (l.take k).getD i d = l.getD i d := by simp [List.getD, List.getElem?_take_of_lt h]
theorem getD_append_left {α : Type} (l m : List α) (i : Nat) (d : α) (h : i < l.length) : (l ++ m).getD i d = l.getD i d := by simp [List.getD, List.getElem?_append_left h]
end Go.Proofs.YtimbbfneaaglbaaGreat.Trace

namespace Go.Proofs.YtimbbfneaaglbaaGreat.SumMath

/-- the low half -/
def adl : Int → List Int → Int
  | a, [] => a
  | a, x :: l => adl ((a + x) % 65521) l
/-- the high half -/
def adh : Int → Int → List Int → Int
  | _, c, [] => c
  | a, c, x :: l => adh ((a + x) % 65521) ((c + (a + x) % 65521) % 65521) l
/-- the sum that goes on from s -/
def adn (s : Int) (l : List Int) : Int := adh (s % 65536 % 65521) (s / 65536 % 65521) l * 65536 + adl (s % 65536 % 65521) l

theorem adl_append (l m : List Int) : ∀ a, adl a (l ++ m) = adl (adl a l) m := by
  induction l with
  | nil => intro a; rfl
  | cons x l ih => intro a; exact ih _
theorem adh_append (l m : List Int) : ∀ a c, adh a c (l ++ m) = adh (adl a l) (adh a c l) m := by
  induction l with
  | nil => intro a c; rfl
  | cons x l ih => intro a c; exact ih _ _
theorem adl_snoc (l : List Int) (a x : Int) : adl a (l ++ [x]) = (adl a l + x) % 65521 := by rw [adl_append]; rfl
theorem adh_snoc (l : List Int) (a c x : Int) : adh a c (l ++ [x]) = (adh a c l + (adl a l + x) % 65521) % 65521 := by rw [adh_append]; rfl
theorem adl_bd (l : List Int) : ∀ a, 0 ≤ a → a < 65521 → 0 ≤ adl a l ∧ adl a l < 65521 := by
  induction l with
  | nil => intro a h0 h1; exact ⟨h0, h1⟩
  | cons x l ih => intro a _ _; exact ih _ (by omega) (by omega)
theorem adh_bd (l : List Int) : ∀ a c, 0 ≤ c → c < 65521 → 0 ≤ adh a c l ∧ adh a c l < 65521 := by
  induction l with
  | nil => intro a c h0 h1; exact ⟨h0, h1⟩
  | cons x l ih => intro a c _ _; exact ih _ _ (by omega) (by omega)
theorem start_bd (s : Int) : 0 ≤ s % 65536 % 65521 ∧ s % 65536 % 65521 < 65521 ∧ 0 ≤ s / 65536 % 65521 ∧ s / 65536 % 65521 < 65521 := by omega
theorem adn_bd (s : Int) (l : List Int) : 0 ≤ adn s l ∧ adn s l ≤ 4294967295 := by
  obtain ⟨h1, h2, h3, h4⟩ := start_bd s
  have a := adl_bd l _ h1 h2
  have c := adh_bd l (s % 65536 % 65521) _ h3 h4
  unfold adn; omega
theorem adn_low (s : Int) (l : List Int) : adn s l % 65536 % 65521 = adl (s % 65536 % 65521) l := by
  obtain ⟨h1, h2, h3, h4⟩ := start_bd s
  have a := adl_bd l _ h1 h2
  unfold adn; omega
theorem adn_high (s : Int) (l : List Int) : adn s l / 65536 % 65521 = adh (s % 65536 % 65521) (s / 65536 % 65521) l := by
  obtain ⟨h1, h2, h3, h4⟩ := start_bd s
  have a := adl_bd l _ h1 h2
  have c := adh_bd l (s % 65536 % 65521) _ h3 h4
  unfold adn; omega
/-- A SUM GOES ON. -/
theorem adn_append (s : Int) (l m : List Int) : adn (adn s l) m = adn s (l ++ m) := by
  have e1 := adn_low s l
  have e2 := adn_high s l
  rw [adn, e1, e2, adn, adl_append, adh_append]

theorem adl_inj (l : List Int) : ∀ a b, 0 ≤ a → a < 65521 → 0 ≤ b → b < 65521 → adl a l = adl b l → a = b := by
  induction l with
  | nil => intro a b _ _ _ _ h; exact h
  | cons x l ih =>
    intro a b h1 h2 h3 h4 h
    have := ih ((a + x) % 65521) ((b + x) % 65521) (by omega) (by omega) (by omega) (by omega) h
    omega
theorem adh_inj (l : List Int) : ∀ a c d, 0 ≤ c → c < 65521 → 0 ≤ d → d < 65521 → adh a c l = adh a d l → c = d := by
  induction l with
  | nil => intro a c d _ _ _ _ h; exact h
  | cons x l ih =>
    intro a c d h1 h2 h3 h4 h
    have := ih ((a + x) % 65521) ((c + (a + x) % 65521) % 65521) ((d + (a + x) % 65521) % 65521) (by omega) (by omega) (by omega) (by omega) h
    omega
theorem adn_parts (s : Int) (l m : List Int) (h : adn s l = adn s m) :
    adl (s % 65536 % 65521) l = adl (s % 65536 % 65521) m ∧ adh (s % 65536 % 65521) (s / 65536 % 65521) l = adh (s % 65536 % 65521) (s / 65536 % 65521) m := by
  rw [← adn_low s l, ← adn_low s m, ← adn_high s l, ← adn_high s m, h]
  exact ⟨rfl, rfl⟩
/-- ONE BYTE CHANGED IS TOLD. -/
theorem adn_changed (s x y : Int) (p t : List Int) (hx : 0 ≤ x ∧ x ≤ 255) (hy : 0 ≤ y ∧ y ≤ 255) (h : adn s (p ++ x :: t) = adn s (p ++ y :: t)) : x = y := by
  have e := (adn_parts s _ _ h).1
  rw [adl_append, adl_append] at e
  obtain ⟨h1, h2, _, _⟩ := start_bd s
  have a := adl_bd p _ h1 h2
  have := adl_inj t _ _ (by omega) (by omega) (by omega) (by omega) e
  omega
/-- TWO SIDE BY SIDE THAT CHANGE PLACES ARE TOLD. -/
theorem adn_swapped (s x y : Int) (p t : List Int) (hx : 0 ≤ x ∧ x ≤ 255) (hy : 0 ≤ y ∧ y ≤ 255) (h : adn s (p ++ x :: y :: t) = adn s (p ++ y :: x :: t)) : x = y := by
  have e := (adn_parts s _ _ h).2
  rw [adh_append, adh_append] at e
  obtain ⟨h1, h2, h3, h4⟩ := start_bd s
  have a := adl_bd p _ h1 h2
  have c := adh_bd p (s % 65536 % 65521) _ h3 h4
  generalize adl (s % 65536 % 65521) p = A at *
  generalize adh (s % 65536 % 65521) (s / 65536 % 65521) p = C at *
  have e' : adh ((A + x) % 65521 + y) ((C + (A + x) % 65521) % 65521) [] = adh ((A + x) % 65521 + y) ((C + (A + x) % 65521) % 65521) [] := rfl
  clear e'
  have q : ((A + x) % 65521 + y) % 65521 = ((A + y) % 65521 + x) % 65521 := by omega
  have e2 : adh (((A + x) % 65521 + y) % 65521) (((C + (A + x) % 65521) % 65521 + ((A + x) % 65521 + y) % 65521) % 65521) t
      = adh (((A + y) % 65521 + x) % 65521) (((C + (A + y) % 65521) % 65521 + ((A + y) % 65521 + x) % 65521) % 65521) t := e
  rw [← q] at e2
  have := adh_inj t _ _ _ (by omega) (by omega) (by omega) (by omega) e2
  omega

/-! ### The sum by blocks: remainders are taken late. -/
/-- Within a block, behind k of its bytes: a and c are right but for multiples of 65521, and small enough. -/
def Inn (A C : Int) (k : Nat) (l : List Int) (a c : Int) : Prop :=
  0 ≤ a ∧ a ≤ 65520 + 255 * (k : Int) ∧ 0 ≤ c ∧ 2 * c ≤ 131040 + 131040 * (k : Int) + 255 * ((k : Int) * (k : Int) + (k : Int)) ∧ a % 65521 = adl A l ∧ c % 65521 = adh A C l
theorem inn_start (A C : Int) (l : List Int) (h1 : 0 ≤ A) (h2 : A < 65521) (h3 : 0 ≤ C) (h4 : C < 65521) : Inn A C 0 l (adl A l) (adh A C l) := by
  have a := adl_bd l _ h1 h2
  have c := adh_bd l A _ h3 h4
  refine ⟨a.1, by omega, c.1, by simp; omega, by omega, by omega⟩
theorem inn_small {A C : Int} {k : Nat} {l : List Int} {a c x : Int} (h : Inn A C k l a c) (hk : k < 5552) (hx : 0 ≤ x ∧ x ≤ 255) :
    0 ≤ a + x ∧ a + x ≤ 4294967295 ∧ 0 ≤ c + (a + x) ∧ c + (a + x) ≤ 4294967295 := by
  obtain ⟨h1, h2, h3, h4, _, _⟩ := h
  have hk2 : (k : Int) * (k : Int) ≤ 5551 * (k : Int) := Int.mul_le_mul_of_nonneg_right (by omega) (by omega)
  omega
theorem inn_step {A C : Int} {k : Nat} {l : List Int} {a c x : Int} (h : Inn A C k l a c) (hx : 0 ≤ x ∧ x ≤ 255) : Inn A C (k + 1) (l ++ [x]) (a + x) (c + (a + x)) := by
  obtain ⟨h1, h2, h3, h4, h5, h6⟩ := h
  have e : ((k + 1 : Nat) : Int) * ((k + 1 : Nat) : Int) = (k : Int) * (k : Int) + 2 * (k : Int) + 1 := by
    have : ((k + 1 : Nat) : Int) = (k : Int) + 1 := by omega
    rw [this, Int.mul_add, Int.add_mul]; omega
  refine ⟨by omega, by omega, by omega, by rw [e]; omega, ?_, ?_⟩
  · rw [adl_snoc]; omega
  · rw [adh_snoc]; omega
theorem inn_now {A C : Int} {k : Nat} {l : List Int} {a c : Int} (h : Inn A C k l a c) (hk : k ≤ 5552) : 0 ≤ a ∧ a ≤ 4294967295 ∧ 0 ≤ c ∧ c ≤ 4294967295 := by
  obtain ⟨h1, h2, h3, h4, _, _⟩ := h
  have hk2 : (k : Int) * (k : Int) ≤ 5552 * (k : Int) := Int.mul_le_mul_of_nonneg_right (by omega) (by omega)
  omega

/-! ### The sum by the lengths -/
/-- what stands behind k of n bytes: the low one is exact, the high one right but for multiples -/
theorem adds_step (n k : Nat) (c z A C : Int) (h : (c - (C + ((n : Int) - k) * A)) % 65521 = 0) :
    (c + z * ((n : Int) - k) - ((C + (A + z) % 65521) % 65521 + ((n : Int) - ((k + 1 : Nat) : Int)) * ((A + z) % 65521))) % 65521 = 0 := by
  obtain ⟨q, hq⟩ : ∃ q, (A + z) % 65521 = A + z - 65521 * q := ⟨(A + z) / 65521, by omega⟩
  rw [hq]
  have e1 : ((n : Int) - ((k + 1 : Nat) : Int)) * (A + z - 65521 * q) = ((n : Int) - k) * A + z * ((n : Int) - k) - 65521 * (((n : Int) - k) * q) - (A + z - 65521 * q) := by
    have : ((n : Int) - ((k + 1 : Nat) : Int)) = ((n : Int) - k) - 1 := by omega
    rw [this, Int.sub_mul, Int.one_mul, Int.mul_sub, Int.mul_add, Int.mul_comm z, Int.mul_left_comm]
  rw [e1]
  omega
end Go.Proofs.YtimbbfneaaglbaaGreat.SumMath

namespace Go.Proofs.YtimbbfneaaglbaaGreat.SumWalks
open Go.RowKit Go.Proofs.YtimbbfneaaglbaaGreat.SumMath Go.Proofs.YtimbbfneaaglbaaGreat.Ints

set_option maxHeartbeats 400000 in
theorem refMore (s : Int) (A : Option Addr) (n c : Nat) (zs : List Int) (w : World) (hs0 : 0 ≤ s) (hs : s ≤ 4294967295) (hn : n ≤ maxLen) (h : Rd .u8 w A n zs) :
    Calls Tryz.prog 82 #[.int .u32 s, .slice A n c] w fun e w' => e = .returned (.int .u32 (adn s zs)) ∧ w = w' := by
  unfold maxLen at hn
  have hl := h.len
  have hbd := h.u8
  have hcell := h.cell
  clear h
  obtain ⟨h1, h2, h3, h4⟩ := start_bd s
  have HL := Lib.hid hl
  clear hl
  go_enter Tryz.func82, Tryz.ntmps82
  go_wp2
  go_loop [5, 6, 16] (fun a c i => ∃ k : Nat, k ≤ n ∧ i = .int .i64 k ∧ a = .int .u32 (adl (s % 65536 % 65521) (zs.take k)) ∧ c = .int .u32 (adh (s % 65536 % 65521) (s / 65536 % 65521) (zs.take k))) (fun _ _ i => n - (intOf i).toNat)
  case atStart => exact ⟨0, Nat.zero_le _, rfl, rfl, rfl⟩
  case round =>
    obtain ⟨k, hk, rfl, rfl, rfl⟩ := hrel
    by_cases hlt : k < n
    · obtain ⟨b, off, rfl, hc⟩ := hcell (by omega)
      have hc1 := hc k hlt
      have hb1 := hbd k hlt
      clear hcell hbd hc
      have hAd := adl_bd (zs.take k) _ h1 h2
      have hCd := adh_bd (zs.take k) (s % 65536 % 65521) _ h3 h4
      have HS := Lib.hid (take_snoc zs k (by rw [HL.out]; exact hlt))
      go_wp2
      go_round
      case rel => exact ⟨k + 1, by omega, by go_num, by rw [HS.out, adl_snoc], by rw [HS.out, adh_snoc]⟩
      case measure => simp [intOf]; omega
    · have hAd := adl_bd (zs.take k) _ h1 h2
      have hCd := adh_bd (zs.take k) (s % 65536 % 65521) _ h3 h4
      go_wp2
      go_ret
      exact ⟨ret_int (by rw [List.take_of_length_le (by rw [HL.out]; omega)]; rfl), rfl⟩

set_option maxHeartbeats 400000 in
set_option maxRecDepth 100000 in
theorem sumMore (s : Int) (A : Option Addr) (n c : Nat) (zs : List Int) (w : World) (hs0 : 0 ≤ s) (hs : s ≤ 4294967295) (hn : n ≤ c) (hc : c ≤ maxLen) (h : Rd .u8 w A n zs) :
    Calls Tryz.prog 105 #[.int .u32 s, .slice A n c] w fun e w' => e = .returned (.int .u32 (adn s zs)) ∧ w = w' := by
  unfold maxLen at hc
  have hl := h.len
  have hbd := h.u8
  have hcell := h.cell
  clear h
  obtain ⟨h1, h2, h3, h4⟩ := start_bd s
  have HL := Lib.hid hl
  clear hl
  go_enter Tryz.func105, Tryz.ntmps105
  go_wp2
  go_loop [1, 5, 6] (fun v a h => ∃ (j : Nat) (A' : Option Addr), j ≤ n ∧ v = .slice A' (n - j) (c - j) ∧ (j < n → ∃ b off, A' = some ⟨b, off, none⟩ ∧ ∀ k, k < n - j → w.cell? ⟨b, off + k, none⟩ = some (.int .u8 (zs[j + k]?.getD 0))) ∧
      a = .int .u32 (adl (s % 65536 % 65521) (zs.take j)) ∧ h = .int .u32 (adh (s % 65536 % 65521) (s / 65536 % 65521) (zs.take j))) (fun v _ _ => match v with | .slice _ l _ => l | _ => 0)
  case atStart => exact ⟨0, A, Nat.zero_le _, rfl, by simpa using hcell, rfl, rfl⟩
  case round =>
    obtain ⟨j, A', hj, rfl, hA, rfl, rfl⟩ := hrel
    clear hcell
    by_cases hlt : j < n
    · obtain ⟨b, off, rfl, hcell⟩ := hA hlt
      clear hA
      have hp : (0 : Int) < ((n - j : Nat) : Int) := by omega
      have hin := inn_start _ _ (zs.take j) h1 h2 h3 h4
      have hz : zs.length = n := HL.out
      obtain ⟨m, hm1, hm2, hm3, hm4, hm5⟩ : ∃ m : Nat, m ≤ n - j ∧ m ≤ 5552 ∧ (n - j ≤ 5552 → n - j ≤ m) ∧ (¬ n - j ≤ 5552 → 5552 ≤ m) ∧ 0 < m := by
        by_cases h5 : n - j ≤ 5552
        · exact ⟨n - j, by omega, by omega, by omega, by omega, by omega⟩
        · exact ⟨5552, by omega, by omega, by omega, by omega, by omega⟩
      by_cases h5 : n - j ≤ 5552
      all_goals
        have h5' : (((n - j : Nat) : Int) ≤ 5552) = (n - j ≤ 5552) := by apply propext; omega
        clear h5'
        go_wp2
        go_loop [5, 6, 26] (fun a h i => ∃ (k : Nat) (av hv : Int), k ≤ m ∧ i = .int .i64 k ∧ a = .int .u32 av ∧ h = .int .u32 hv ∧ Inn (s % 65536 % 65521) (s / 65536 % 65521) k (zs.take (j + k)) av hv) (fun _ _ i => m - (intOf i).toNat)
        case atStart => exact ⟨0, _, _, Nat.zero_le _, rfl, rfl, rfl, hin⟩
        case round =>
          obtain ⟨k, av, hv, hk, rfl, rfl, rfl, hi⟩ := hrel
          clear hin
          by_cases hkm : k < m
          · have hc1 := hcell k (by omega)
            have hb1 := hbd (j + k) (by omega)
            have hsm := inn_small hi (by omega) hb1
            have HI := Lib.hid (inn_step hi hb1)
            have HS := Lib.hid (take_snoc zs (j + k) (by omega))
            clear hcell hbd hz hi
            go_wp2
            go_round
            case rel => exact ⟨k + 1, _, _, by omega, by go_num, rfl, rfl, by rw [← Nat.add_assoc, HS.out]; exact HI.out⟩
            case measure => simp [intOf]; omega
          · have hkm' : k = m := by omega
            subst hkm'
            have hsm := inn_now hi (by omega)
            have HI := Lib.hid hi
            clear hi hbd hz
            go_wp2
            go_round
            case rel =>
              have hv1 := HI.out.2.2.2.2.1
              have hv2 := HI.out.2.2.2.2.2
              first
                | (have hkn : n - j = k := by omega
                   exact ⟨j + k, _, by omega, slice_eq rfl (by omega) (by omega), fun h => absurd h (by omega), int_eq hv1, int_eq hv2⟩)
                | (have hkn : 5552 = k := by omega
                   exact ⟨j + k, _, by omega, slice_eq rfl (by omega) (by omega), fun h => ⟨_, _, rfl, fun i hi => by
                     have := hcell (5552 + i) (by omega)
                     rw [← Nat.add_assoc] at this
                     rw [this, ← hkn, Nat.add_assoc]⟩, int_eq hv1, int_eq hv2⟩)
            case measure => show _ < n - j; first | (show n - j - 5552 < n - j; omega) | (show 0 < n - j; omega)
    · have hjn : j = n := by omega
      have HJ := Lib.hid hjn
      clear hjn
      go_wp2
      go_ret
      exact ⟨ret_int (by rw [HJ.out, List.take_of_length_le (by rw [HL.out]; omega)]; have := adn_bd s zs; unfold adn at *; omega), rfl⟩

end Go.Proofs.YtimbbfneaaglbaaGreat.SumWalks

namespace Go.Proofs.YtimbbfneaaglbaaGreat.SumWalks
open Go.RowKit Go.Proofs.YtimbbfneaaglbaaGreat.SumMath Go.Proofs.YtimbbfneaaglbaaGreat.Ints

theorem sumSum (A : Option Addr) (n c : Nat) (zs : List Int) (w : World) (hn : n ≤ c) (hc : c ≤ maxLen) (h : Rd .u8 w A n zs) :
    Calls Tryz.prog 87 #[.slice A n c] w fun e w' => e = .returned (.int .u32 (adn 1 zs)) ∧ w = w' := by
  go_enter Tryz.func87, Tryz.ntmps87
  go_wp2_with (go_at_call 105; refine (sumMore 1 _ n c zs _ (by omega) (by omega) hn hc h).mono ?_; rintro e w' ⟨rfl, rfl⟩)
  go_ret
  exact ⟨rfl, rfl⟩

theorem refSum (A : Option Addr) (n c : Nat) (zs : List Int) (w : World) (hn : n ≤ maxLen) (h : Rd .u8 w A n zs) :
    Calls Tryz.prog 56 #[.slice A n c] w fun e w' => e = .returned (.int .u32 (adn 1 zs)) ∧ w = w' := by
  go_enter Tryz.func56, Tryz.ntmps56
  go_wp2_with (go_at_call 82; refine (refMore 1 _ n c zs _ (by omega) (by omega) hn h).mono ?_; rintro e w' ⟨rfl, rfl⟩)
  go_ret
  exact ⟨rfl, rfl⟩

end Go.Proofs.YtimbbfneaaglbaaGreat.SumWalks

namespace Go.Proofs.YtimbbfneaaglbaaGreat.SumWalks
open Go.RowKit Go.Proofs.YtimbbfneaaglbaaGreat.SumMath Go.Proofs.YtimbbfneaaglbaaGreat.Ints

theorem be_or (x0 x1 x2 x3 : Int) (b0 : 0 ≤ x0 ∧ x0 ≤ 255) (b1 : 0 ≤ x1 ∧ x1 ≤ 255) (b2 : 0 ≤ x2 ∧ x2 ≤ 255) (b3 : 0 ≤ x3 ∧ x3 ≤ 255) :
    bits .or .u32 (bits .or .u32 (bits .or .u32 (x0 * 16777216) (x1 * 65536)) (x2 * 256)) x3 = x0 * 16777216 + x1 * 65536 + x2 * 256 + x3 := by
  have e1 := or_low_u32 24 x0 (x1 * 65536) (by omega) (by omega) (by simp; omega) (by simp; omega)
  have e2 := or_low_u32 16 (x0 * 256 + x1) (x2 * 256) (by omega) (by omega) (by simp; omega) (by simp; omega)
  have e3 := or_low_u32 8 (x0 * 65536 + x1 * 256 + x2) x3 (by omega) (by omega) (by simp; omega) (by simp; omega)
  simp only [show ((2 ^ 24 : Nat) : Int) = 16777216 from rfl, show ((2 ^ 16 : Nat) : Int) = 65536 from rfl, show ((2 ^ 8 : Nat) : Int) = 256 from rfl] at e1 e2 e3
  rw [e1, show x0 * 16777216 + x1 * 65536 = (x0 * 256 + x1) * 65536 by omega, e2, show (x0 * 256 + x1) * 65536 + x2 * 256 = (x0 * 65536 + x1 * 256 + x2) * 256 by omega, e3]

theorem number (b off c : Nat) (x0 x1 x2 x3 : Int) (w : World) (h : Rd .u8 w (some ⟨b, off, none⟩) 4 [x0, x1, x2, x3]) :
    Calls Tryz.prog 118 #[.slice (some ⟨b, off, none⟩) 4 c] w fun e w' => e = .returned (.int .u32 (x0 * 16777216 + x1 * 65536 + x2 * 256 + x3)) ∧ ∃ q, w' = w.drewN q := by
  obtain ⟨b', off', e', hc⟩ := h.cell (by omega)
  simp only [Option.some.injEq, Addr.mk.injEq, and_true] at e'
  obtain ⟨rfl, rfl⟩ := e'
  have c0 : w.cell? ⟨b, off, none⟩ = some (.int .u8 x0) := by simpa using hc 0 (by omega)
  have c1 : w.cell? ⟨b, off + 1, none⟩ = some (.int .u8 x1) := by simpa using hc 1 (by omega)
  have c2 : w.cell? ⟨b, off + 2, none⟩ = some (.int .u8 x2) := by simpa using hc 2 (by omega)
  have c3 : w.cell? ⟨b, off + 3, none⟩ = some (.int .u8 x3) := by simpa using hc 3 (by omega)
  have b0 := h.u8 0 (by omega)
  have b1 := h.u8 1 (by omega)
  have b2 := h.u8 2 (by omega)
  have b3 := h.u8 3 (by omega)
  simp at b0 b1 b2 b3
  clear hc h
  go_enter Tryz.func118, Tryz.ntmps118
  go_wp2
  go_quiet (fail)
  go_wp2
  go_ret
  exact ⟨ret_int (be_or x0 x1 x2 x3 b0 b1 b2 b3), _, rfl⟩

theorem info5' : (Tryz.prog.info? 5).map (fun i => (i.zero, i.size, i.bytes)) = some (some (.int .u8 0), 1, 1) := by kernel_rfl

/-- The call hands back a row of its own, the numbers zs; nothing that was there has changed. -/
def Made (w : World) (n : Nat) (zs : List Int) (e : Ending) (w' : World) : Prop :=
  ∃ v', e = .returned v' ∧ w'.ownsRow w.heap.size 5 1 v' n (zs.map (Value.int .u8)) ∧ Below w.heap.size w w'

theorem clone (A : Option Addr) (n c : Nat) (zs : List Int) (w : World) (hA : A = none → c = 0) (hn : n ≤ c) (hc : n ≤ 140737488355328) (h : Rd .u8 w A n zs) :
    Calls Tryz.prog 57 #[.slice A n c] w (Made w n zs) := by
  obtain ⟨i0, hi, hz0, hz1, hz2⟩ := info_parts info5'
  have q1 : 0 + n ≤ maxLen := by unfold maxLen; omega
  have q2 : (0 + n) * 1 ≤ 140737488355328 := by omega
  have q3 : w.heap.size ≤ (w.alloc (.cells #[] 5)).heap.size := by simp
  have hnil := fun (W : World) (B : Option Addr) => Lib.run_eql_slice_nil (P := Tryz.prog) W 28 5 B n c 0 0 Tryz.underlying28
  cases A with
  | none =>
    have h0 := hA rfl
    subst h0
    have h1 : n = 0 := by omega
    subst h1
    have h2 : zs = [] := List.eq_nil_of_length_eq_zero h.len
    subst h2
    go_enter Tryz.func57, Tryz.ntmps57
    go_wp2
    go_ret
    exact ⟨_, rfl, World.ownsRow_nil _ _ _ _, Below.refl _ _⟩
  | some a =>
    go_enter Tryz.func57, Tryz.ntmps57
    go_wp2_with (at_builtin; refine wpList_append_ints rfl _ _ 28 rfl .u8 w.heap.size 5 i0 1 Tryz.underlying28 hi hz0 hz1 hz2 (.slice (some ⟨w.heap.size, 0, none⟩) 0 0) 0 [] rfl (World.ownsRow_made w #[] 0 (Nat.le_refl _) (by decide) rfl) _ _ _ zs rfl (h.alloc _) q1 q2 q3 ?_; intro v' w1 hown hgr; simp only [Nat.zero_add, List.nil_append] at hown)
    go_ret
    exact ⟨_, rfl, hown, ((Below.refl _ _).alloc (Nat.le_refl _) _).grown hgr (by simp) (by rintro k hk; simp [Value.ownBlock] at hk; omega)⟩

/-- The four bytes of a sum. -/
def be4 (s : Int) : List Int := [s / 16777216, s / 65536 % 256, s / 256 % 256, s % 256]

theorem be4_wf {s : Int} (h : 0 ≤ s ∧ s ≤ 4294967295) : ∀ z ∈ be4 s, (Lit.int .u8 z).wf = true := by
  intro z hz
  simp [be4] at hz
  refine u8_wf ?_
  omega

theorem refPut (A : Option Addr) (n c : Nat) (zs : List Int) (w : World) (hc : n ≤ 140737488351232) (h : Rd .u8 w A n zs) :
    Calls Tryz.prog 30 #[.slice A n c] w (Made w (n + 4) (zs ++ be4 (adn 1 zs))) := by
  obtain ⟨i0, hi, hz0, hz1, hz2⟩ := info_parts info5'
  have hcm : n ≤ maxLen := by unfold maxLen; omega
  have q1 : 0 + n ≤ maxLen := by omega
  have q2 : (0 + n) * 1 ≤ 140737488355328 := by omega
  have q3 : w.heap.size ≤ (w.alloc (.cells #[] 5)).heap.size := by simp
  have hbd := adn_bd 1 zs
  have hs := refSum A n c zs w hcm h
  generalize adn 1 zs = s at *
  have HS := Lib.hid hs
  clear hs
  go_enter Tryz.func30, Tryz.ntmps30
  have hw4 := be4_wf hbd
  have q4 : n + 4 ≤ maxLen := by unfold maxLen; omega
  have q5 : (n + 4) * 1 ≤ 140737488355328 := by omega
  go_wp2_with fail
  refine HS.out.mono ?_
  rintro e w' ⟨rfl, rfl⟩
  go_wp2_with (first
    | (at_builtin; refine wpList_append_ints rfl _ _ 28 rfl .u8 w.heap.size 5 i0 1 Tryz.underlying28 hi hz0 hz1 hz2 v' n zs rfl (hown.alloc _) _ 4 4 (be4 s) rfl (Rd.lit w1 5 (0, 0) (be4 s) hw4) q4 q5 (hr3 _) ?_; intro v2 w2 hown2 hgr2)
    | (at_builtin; refine wpList_append_ints rfl _ _ 28 rfl .u8 w.heap.size 5 i0 1 Tryz.underlying28 hi hz0 hz1 hz2 (.slice (some ⟨w.heap.size, 0, none⟩) 0 0) 0 [] rfl (World.ownsRow_made w #[] 0 (Nat.le_refl _) (by decide) rfl) _ _ _ zs rfl (h.alloc _) q1 q2 q3 ?_; intro v' w1 hown hgr; simp only [Nat.zero_add, List.nil_append] at hown; have hr3 : ∀ o, w.heap.size ≤ (w1.alloc o).heap.size := fun o => by have := hgr.size; simp at this ⊢; omega))
  go_ret
  have hb1 : Below w.heap.size w w1 := ((Below.refl _ _).alloc (Nat.le_refl _) _).grown hgr (by simp) (by rintro k hk; simp [Value.ownBlock] at hk; omega)
  exact ⟨_, rfl, hown2, (hb1.alloc hb1.size _).grown hgr2 (hr3 _) (fun k hk => (hown.lt k hk).1)⟩

theorem sumPut (A : Option Addr) (n c : Nat) (zs : List Int) (w : World) (hn : n ≤ c) (hcm : c ≤ maxLen) (hc : n ≤ 140737488351232) (h : Rd .u8 w A n zs) :
    Calls Tryz.prog 65 #[.slice A n c] w (Made w (n + 4) (zs ++ be4 (adn 1 zs))) := by
  obtain ⟨i0, hi, hz0, hz1, hz2⟩ := info_parts info5'
  have q1 : 0 + n ≤ maxLen := by omega
  have q2 : (0 + n) * 1 ≤ 140737488355328 := by omega
  have hbd := adn_bd 1 zs
  have hs := fun W hW => sumSum A n c zs W hn hcm hW
  generalize adn 1 zs = s at *
  have HS := Lib.hid hs
  clear hs
  have hw4 := be4_wf hbd
  have q4 : n + 4 ≤ maxLen := by unfold maxLen; omega
  have q5 : (n + 4) * 1 ≤ 140737488355328 := by omega
  have q6 : i0.bytes * (n + 4) ≤ 281474976710656 := by rw [hz2]; omega
  go_enter Tryz.func65, Tryz.ntmps65
  go_wp2_with (first
    | (at_builtin; refine wpList_append_ints rfl _ _ 28 rfl .u8 w.heap.size 5 i0 1 Tryz.underlying28 hi hz0 hz1 hz2 (.slice (some ⟨w.heap.size, 0, none⟩) 0 (n + 4)) 0 [] rfl hmade _ _ _ zs rfl hrd q1 q2 hr2 ?_; intro v' w2 hown hgr; simp only [Nat.zero_add, List.nil_append] at hown)
    | (at_make; refine wpList_make_own _ rfl _ _ 28 rfl w.heap.size 5 i0 (.int .u8 0) 1 Tryz.underlying28 hi hz0 hz1 .i64 .i64 _ (n + 4) rfl rfl (by omega) q6 q4 (Nat.le_refl _) ?_; intro w1 hmade hgr1; have hrd := h.grown hgr1 (fun _ _ => by simp); have hr2 := hgr1.size))
  have hb2 : Below w.heap.size w w2 := (((Below.refl _ _).grown hgr1 (Nat.le_refl _) (by simp)).grown hgr hr2 (by rintro k hk; simp [Value.ownBlock] at hk; omega))
  have hs2 := HS.out w2 (h.below hb2)
  clear hgr hgr1 hmade hrd
  refine hs2.mono ?_
  clear hs2
  rintro e w' ⟨rfl, rfl⟩
  have hr3 : ∀ o, w.heap.size ≤ (w2.alloc o).heap.size := fun o => by have := hb2.size; simp; omega
  go_wp2_with (at_builtin; refine wpList_append_ints rfl _ _ 28 rfl .u8 w.heap.size 5 i0 1 Tryz.underlying28 hi hz0 hz1 hz2 v' n zs rfl (hown.alloc _) _ 4 4 (be4 s) rfl (Rd.lit w2 5 (0, 0) (be4 s) hw4) q4 q5 (hr3 _) ?_; intro v2 w3 hown2 hgr2)
  go_ret
  exact ⟨_, rfl, hown2, (hb2.alloc hb2.size _).grown hgr2 (hr3 _) (fun k hk => (hown.lt k hk).1)⟩

/-- Four bytes read as their number's. -/
theorem be4_back {x0 x1 x2 x3 s : Int} (b1 : 0 ≤ x1 ∧ x1 ≤ 255) (b2 : 0 ≤ x2 ∧ x2 ≤ 255) (b3 : 0 ≤ x3 ∧ x3 ≤ 255) :
    x0 * 16777216 + x1 * 65536 + x2 * 256 + x3 = s ↔ [x0, x1, x2, x3] = be4 s := by
  simp only [be4, List.cons.injEq, and_true]
  constructor
  · intro h; omega
  · intro h; omega
theorem four {zs : List Int} {n : Nat} (hl : zs.length = n) (h4 : 4 ≤ n) : ∃ x0 x1 x2 x3, zs.drop (n - 4) = [x0, x1, x2, x3] := by
  have h : (zs.drop (n - 4)).length = 4 := by rw [List.length_drop]; omega
  match zs.drop (n - 4), h with
  | [x0, x1, x2, x3], _ => exact ⟨x0, x1, x2, x3, rfl⟩

/-- The bytes are those of Put. -/
def Sealed (n : Nat) (zs : List Int) : Prop := 4 ≤ n ∧ zs.drop (n - 4) = be4 (adn 1 (zs.take (n - 4)))

/-- What Right answers where there is something: the bytes ahead of the sum, and true. -/
def Opened (w : World) (n : Nat) (zs : List Int) (e : Ending) (w' : World) : Prop :=
  ∃ A c, e = .returned (.tuple #[.slice A n c, .bool true]) ∧ Rd .u8 w' A n zs ∧ (n ≤ c ∧ c ≤ maxLen) ∧ Below w.heap.size w w'

theorem rightShort (A : Option Addr) (n c : Nat) (w : World) (hn4 : n < 4) :
    Calls Tryz.prog 114 #[.slice A n c] w fun e w' => e = .returned (.tuple #[.slice none 0 0, .bool false]) ∧ Below w.heap.size w w' := by
  have hg : decide ((n : Int) - 4 < 0) = true := by simp; omega
  have hg2 : (n : Int) - 4 < 0 := by omega
  go_enter Tryz.func114, Tryz.ntmps114
  go_wp2
  go_quiet (fail)
  go_wp2
  go_ret2
  exact ⟨rfl, below_drewN (Below.refl _ _) _⟩

theorem rightLong (b off m c : Nat) (zs : List Int) (x0 x1 x2 x3 : Int) (w : World) (hn : m + 4 ≤ c) (hcm : c ≤ maxLen) (hc : m ≤ 140737488351232) (h : Rd .u8 w (some ⟨b, off, none⟩) (m + 4) zs) (hx : zs.drop m = [x0, x1, x2, x3]) (r : Bool)
    (hr : (x0 * 16777216 + x1 * 65536 + x2 * 256 + x3 != adn 1 (zs.take m)) = r) :
    Calls Tryz.prog 114 #[.slice (some ⟨b, off, none⟩) (m + 4) c] w fun e w' =>
      if r then e = .returned (.tuple #[.slice none 0 0, .bool false]) ∧ Below w.heap.size w w' else Opened w m (zs.take m) e w' := by
  have hh := h.take (m := m) (by omega)
  have ht : Rd .u8 w (some ⟨b, off + m, none⟩) 4 [x0, x1, x2, x3] := by
    have := h.drop (m := m) (by omega)
    rwa [hx, show m + 4 - m = 4 by omega] at this
  have hnum := fun W (hW : Rd .u8 W (some ⟨b, off + m, none⟩) 4 [x0, x1, x2, x3]) => number b (off + m) (c - m) x0 x1 x2 x3 W hW
  have hsum := fun W (hW : Rd .u8 W (some ⟨b, off, none⟩) m (zs.take m)) => sumSum (some ⟨b, off, none⟩) m c _ W (by omega) hcm hW
  have HX := Lib.hid hx
  have HR := Lib.hid hr
  clear hx hr h
  generalize x0 * 16777216 + x1 * 65536 + x2 * 256 + x3 = u at *
  generalize zs.take m = ys at *
  generalize adn 1 ys = s at *
  have HN := Lib.hid hnum
  have HS := Lib.hid hsum
  clear hnum hsum
  have hg : decide ((m : Int) < 0) = false := by simp
  have g1 : (0 : Int) ≤ (m : Int) := by omega
  have g2 : (m : Int) ≤ (m : Int) + 4 := by omega
  have g3 : (m : Int) ≤ (c : Int) := by omega
  have g4 : ¬ c = m := by omega
  go_enter Tryz.func114, Tryz.ntmps114
  go_wp2
  go_quiet ((first | (go_at_call 118; exact quiet_more ⟨_, rfl⟩ (HN.out _ (by first | exact ht.drewN _ | exact ht))) | (go_at_call 87; exact quiet_left ⟨_, rfl⟩ (HS.out _ (by first | exact hh.drewN _ | exact hh)))))
  have hr := HR.out
  clear HN HS HR HX ht hg
  cases r with
  | true =>
    go_wp2
    go_ret2
    exact ⟨rfl, below_drewN (Below.refl _ _) _⟩
  | false =>
    go_wp2_with (go_at_call 57; refine (clone (some ⟨b, off, none⟩) m c ys _ (fun h => by cases h) (by omega) (by omega) (by first | exact hh.drewN _ | exact hh)).mono ?_; rintro e w' ⟨v', rfl, hown, hbel⟩; obtain ⟨A, c', rfl, h1, h2, _⟩ := own_slice hown)
    go_ret2
    exact ⟨_, _, rfl, Rd.own hown hh.all, ⟨h1, h2⟩, (below_drewN (Below.refl _ _) _).trans hbel⟩

theorem refRightShort (A : Option Addr) (n c : Nat) (w : World) (hn4 : n < 4) :
    Calls Tryz.prog 95 #[.slice A n c] w fun e w' => e = .returned (.tuple #[.slice none 0 0, .bool false]) ∧ Below w.heap.size w w' := by
  have hg2 : (n : Int) < 4 := by omega
  go_enter Tryz.func95, Tryz.ntmps95
  go_wp2
  go_ret2
  exact ⟨rfl, Below.refl _ _⟩

set_option maxRecDepth 100000 in
theorem refRightLong (b off m c : Nat) (zs : List Int) (w : World) (hn : m + 4 ≤ c) (hcm : c ≤ maxLen) (hc : m ≤ 140737488351232) (h : Rd .u8 w (some ⟨b, off, none⟩) (m + 4) zs) (r : Bool)
    (hr : ((strOfNums (zs.take m ++ be4 (adn 1 (zs.take m)))).toList == (strOfNums zs).toList) = !r) :
    Calls Tryz.prog 95 #[.slice (some ⟨b, off, none⟩) (m + 4) c] w fun e w' =>
      if r then e = .returned (.tuple #[.slice none 0 0, .bool false]) ∧ Below w.heap.size w w' else Opened w m (zs.take m) e w' := by
  have hh := h.take (m := m) (by omega)
  have hp := fun W (hW : Rd .u8 W (some ⟨b, off, none⟩) m (zs.take m)) => refPut (some ⟨b, off, none⟩) m c _ W hc hW
  generalize zs.take m = ys at *
  have hw4 := be4_wf (adn_bd 1 ys)
  generalize be4 (adn 1 ys) = t4 at *
  have hall : ∀ z ∈ ys ++ t4, (Lit.int .u8 z).wf = true := fun z hz => (List.mem_append.1 hz).elim (hh.all z) (hw4 z)
  have HP := Lib.hid hp
  have HR := Lib.hid hr
  clear hp hr
  have g1 : (0 : Int) ≤ (m : Int) := by omega
  have g2 : (m : Int) ≤ (m : Int) + 4 := by omega
  have g3 : (m : Int) ≤ (c : Int) := by omega
  have g5 : ¬ ((m : Int) + 4 < 4) := by omega
  have hcv := fun W (hW : Rd .u8 W (some ⟨b, off, none⟩) (m + 4) zs) => run_str (P := Tryz.prog) (W := W) (c := c) 28 5 9 Tryz.underlying28 Tryz.underlying5 Tryz.underlying9 hW
  have hcv1 := hcv _ h.drew
  have HC := Lib.hid hcv
  clear hcv
  go_enter Tryz.func95, Tryz.ntmps95
  go_wp2
  go_region_with (go_at_call 30; refine (HP.out _ (by first | exact hh.drew | exact hh)).mono ?_; rintro e w' ⟨v', rfl, hown, hbel⟩; obtain ⟨A, c', rfl, _⟩ := own_slice hown; have e2 := run_str (P := Tryz.prog) (c := c') 28 5 9 Tryz.underlying28 Tryz.underlying5 Tryz.underlying9 (Rd.own hown hall); have e3 := HC.out w' (h.below (Below.drew (Below.refl _ _) |>.trans hbel)))
  all_goals
    have hr := HR.out
    clear e2 e3
    cases r with
    | true =>
      simp only [Bool.not_true] at hr
      rw [hr]
      clear hr
      go_wp2
      go_ret2
      exact ⟨rfl, (Below.refl _ _).drew.trans hbel⟩
    | false =>
      simp only [Bool.not_false] at hr
      rw [hr]
      clear hr
      go_wp2
      go_ret2
      exact ⟨_, _, rfl, hh.below ((Below.refl _ _).drew.trans hbel), ⟨by omega, hcm⟩, (Below.refl _ _).drew.trans hbel⟩

end Go.Proofs.YtimbbfneaaglbaaGreat.SumWalks
