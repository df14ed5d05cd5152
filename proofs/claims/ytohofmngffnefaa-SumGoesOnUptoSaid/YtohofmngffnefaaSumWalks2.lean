/-
  The walks of Sum, of awake, and of the laws that only read: SumReckons, SumAdds. By an AI agent.
-/
import Derived.Test.YtohofmngffnefaaSumWalks
import Derived.Lib.SlBytesConst
namespace Go.Proofs.Ytohofmngffnefaa.SumWalks
open Go.RowKit Go.Proofs.Ytohofmngffnefaa.SumMath Go.Proofs.Ytohofmngffnefaa.Ints

theorem sumSum (A : Option Addr) (n c : Nat) (zs : List Int) (w : World) (hn : n ≤ c) (hc : c ≤ maxLen) (h : Rd .u8 w A n zs) :
    Calls Try.prog 8 #[.slice A n c] w fun e w' => e = .returned (.int .u32 (adn 1 zs)) ∧ w = w' := by
  go_enter Try.func8, Try.ntmps8
  go_wp2_with (go_at_call 10; refine (sumMore 1 _ n c zs _ (by omega) (by omega) hn hc h).mono ?_; rintro e w' ⟨rfl, rfl⟩)
  go_ret
  exact ⟨rfl, rfl⟩

theorem refSum (A : Option Addr) (n c : Nat) (zs : List Int) (w : World) (hn : n ≤ maxLen) (h : Rd .u8 w A n zs) :
    Calls Try.prog 9 #[.slice A n c] w fun e w' => e = .returned (.int .u32 (adn 1 zs)) ∧ w = w' := by
  go_enter Try.func9, Try.ntmps9
  go_wp2_with (go_at_call 11; refine (refMore 1 _ n c zs _ (by omega) (by omega) hn h).mono ?_; rintro e w' ⟨rfl, rfl⟩)
  go_ret
  exact ⟨rfl, rfl⟩

theorem rd_abc (w : World) (T : TypeId) : Rd .u8 (w.alloc (.cells #[.int .u8 97, .int .u8 98, .int .u8 99] T (3, 4))) (some ⟨w.heap.size, 0, none⟩) 3 [97, 98, 99] :=
  Rd.lit (k := .u8) w T (3, 4) [97, 98, 99] (by decide)
theorem adn_abc : adn 1 [97, 98, 99] = 38600999 := by decide
theorem adn_nil : adn 1 [] = 1 := by decide

theorem awake (w : World) : Calls Try.prog 12 #[] w fun e w' => e = .returned (.bool true) ∧ Below w.heap.size w w' := by
  have kc := fun (w : World) (C : Array Value) (n c : Nat) => Lib.run_convert_bytes_const (P := Try.prog) w 23 5 C n c Try.underlying23 Try.underlying5
  have h1 := sumSum (some ⟨w.heap.size, 0, none⟩) 3 3 [97, 98, 99] _ (by omega) (by decide) (rd_abc w 5)
  have h2 := sumSum none 0 0 [] (w.alloc (.cells #[.int .u8 97, .int .u8 98, .int .u8 99] 5 (3, 4))) (by omega) (by decide) (Rd.nil _ _ _)
  rw [adn_abc] at h1
  rw [adn_nil] at h2
  have H1 := Lib.hid h1
  have H2 := Lib.hid h2
  clear h1 h2
  go_enter Try.func12, Try.ntmps12
  go_wp2_with fail
  refine H1.out.mono ?_
  rintro e w' ⟨rfl, rfl⟩
  go_wp2_with fail
  refine H2.out.mono ?_
  rintro e w' ⟨rfl, rfl⟩
  go_wp2_with fail
  go_ret
  exact ⟨rfl, (Below.refl _ _).alloc (Nat.le_refl _) _⟩

theorem lawReckons (s : Int) (A : Option Addr) (n c : Nat) (zs : List Int) (w : World) (hs0 : 0 ≤ s) (hs : s ≤ 4294967295) (hn : n ≤ c) (hc : c ≤ maxLen) (h : Rd .u8 w A n zs) :
    Calls Try.prog 3 #[.int .u32 s, .slice A n c] w fun e w' => e = .returned (.bool true) ∧ Below w.heap.size w w' := by
  have hn' : n ≤ maxLen := by omega
  go_enter Try.func3, Try.ntmps3
  go_wp2_with (first
    | (go_at_call 8; refine (sumSum A n c zs _ hn hc h).mono ?_; rintro e w' ⟨rfl, rfl⟩)
    | (go_at_call 9; refine (refSum A n c zs _ hn' h).mono ?_; rintro e w' ⟨rfl, rfl⟩)
    | (go_at_call 10; refine (sumMore s A n c zs _ hs0 hs hn hc h).mono ?_; rintro e w' ⟨rfl, rfl⟩)
    | (go_at_call 11; refine (refMore s A n c zs _ hs0 hs hn' h).mono ?_; rintro e w' ⟨rfl, rfl⟩)
    | (go_at_call 12; refine (awake _).mono ?_; rintro e w' ⟨rfl, hb⟩))
  go_ret
  exact ⟨rfl, by assumption⟩

/-- What stands in the law's two variables behind k of n bytes. -/
def Adds (n k : Nat) (l : List Int) (a c : Int) : Prop :=
  1 ≤ a ∧ a ≤ 1 + 255 * (k : Int) ∧ 0 ≤ c ∧ c ≤ 20000 + 255 * 20000 * (k : Int) ∧ a % 65521 = adl 1 l ∧ (c - (adh 1 0 l + ((n : Int) - k) * adl 1 l)) % 65521 = 0
theorem mul_bd {z : Int} {m : Int} (hz : 0 ≤ z ∧ z ≤ 255) (h0 : 0 ≤ m) (hm : m ≤ 20000) : 0 ≤ z * m ∧ z * m ≤ 255 * 20000 := by
  refine ⟨Int.mul_nonneg hz.1 h0, ?_⟩
  have h1 : z * m ≤ 255 * m := Int.mul_le_mul_of_nonneg_right hz.2 h0
  omega
theorem adds_next {n k : Nat} {l : List Int} {a c z : Int} (h : Adds n k l a c) (hk : k < n) (hn : n ≤ 20000) (hz : 0 ≤ z ∧ z ≤ 255) : Adds n (k + 1) (l ++ [z]) (a + z) (c + z * ((n : Int) - k)) := by
  obtain ⟨h1, h2, h3, h4, h5, h6⟩ := h
  have hm := mul_bd (m := (n : Int) - k) hz (by omega) (by omega)
  refine ⟨by omega, by omega, by omega, by omega, ?_, ?_⟩
  · rw [adl_snoc]; omega
  · rw [adl_snoc, adh_snoc]; exact adds_step n k c z _ _ h6
theorem adds_first (n : Nat) (hn : n ≤ 20000) : Adds n 0 [] 1 n := by
  refine ⟨by omega, by omega, by omega, by omega, by decide, ?_⟩
  show ((n : Int) - (0 + ((n : Int) - (0 : Nat)) * 1)) % 65521 = 0
  omega
theorem adds_last {n : Nat} {l : List Int} {a c : Int} (h : Adds n n l a c) : adn 1 l = c % 65521 * 65536 + a % 65521 := by
  obtain ⟨_, _, _, _, h5, h6⟩ := h
  have hb := adh_bd l 1 0 (by omega) (by omega)
  have e : ((n : Int) - n) * adl 1 l = 0 := by rw [Int.sub_self, Int.zero_mul]
  rw [e] at h6
  have e1 : adn 1 l = adh 1 0 l * 65536 + adl 1 l := rfl
  rw [e1]
  omega

set_option maxHeartbeats 400000 in
theorem lawAdds (A : Option Addr) (n c : Nat) (zs : List Int) (w : World) (hn : n ≤ c) (hc : c ≤ maxLen) (h : Rd .u8 w A n zs) :
    Calls Try.prog 7 #[.slice A n c] w fun e w' => e = .returned (.bool true) ∧ Below w.heap.size w w' := by
  by_cases hbig : 20000 < n
  · go_enter Try.func7, Try.ntmps7
    go_wp2_with (go_at_call 12; refine (awake _).mono ?_; rintro e w' ⟨rfl, hb⟩)
    go_ret
    exact ⟨rfl, by assumption⟩
  · have hl := Lib.hid h.len
    have hbd := h.u8
    have hcell := h.cell
    have hsum := Lib.hid (sumSum A n c zs w hn hc h)
    clear h
    have hst := adds_first n (by omega)
    have HW : Hid ((n : Int) % 18446744073709551616 = n) := by show _ = _; omega
    go_enter Try.func7, Try.ntmps7
    go_wp2
    go_loop [3, 4, 16] (fun a v i => ∃ (k : Nat) (av cv : Int), k ≤ n ∧ i = .int .i64 k ∧ a = .int .u64 av ∧ v = .int .u64 cv ∧ Adds n k (zs.take k) av cv) (fun _ _ i => n - (intOf i).toNat)
    case atStart => exact ⟨0, _, _, Nat.zero_le _, rfl, rfl, rfl, hst⟩
    case round =>
      obtain ⟨k, av, cv, hk, rfl, rfl, rfl, hi⟩ := hrel
      clear hst
      have hg1 := hi.1
      have hg2 := hi.2.1
      have hg3 := hi.2.2.1
      have hg4 := hi.2.2.2.1
      by_cases hkm : k < n
      · obtain ⟨b, off, rfl, hc'⟩ := hcell (by omega)
        have hc1 := hc' k hkm
        have hb1 := hbd k hkm
        clear hcell hbd hc'
        have hm := mul_bd (m := (n : Int) - k) hb1 (by omega) (by omega)
        have HI := Lib.hid (adds_next hi hkm (by omega) hb1)
        have HS := Lib.hid (take_snoc zs k (by rw [hl.out]; exact hkm))
        clear hi
        go_wp2
        go_round
        case rel => exact ⟨k + 1, _, _, by omega, by go_num, rfl, rfl, by rw [HS.out]; exact HI.out⟩
        case measure => simp [intOf]; omega
      · have hkm' : k = n := by omega
        subst hkm'
        have HI := adds_last hi
        rw [List.take_of_length_le (by rw [hl.out]; omega)] at HI
        have hs2 := hsum.out
        rw [HI] at hs2
        have HS := Lib.hid hs2
        clear hi hcell hbd HI hs2
        go_wp2_with fail
        refine HS.out.mono ?_
        rintro e w' ⟨rfl, rfl⟩
        go_wp2_with (go_at_call 12; refine (awake _).mono ?_; rintro e w' ⟨rfl, hb⟩)
        go_ret
        exact ⟨rfl, by assumption⟩
