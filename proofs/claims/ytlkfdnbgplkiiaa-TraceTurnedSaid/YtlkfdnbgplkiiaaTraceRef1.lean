/-
  The walks of the reference's Names and Ids; slices.Contains over names. By an AI agent.
-/
import Derived.Test.YtlkfdnbgplkiiaaTracePlain
import Derived.Test.YtlkfdnbgplkiiaaLexNR
import Derived.Test.YtlkfdnbgplkiiaaShelf
import Derived.Lib.IndexAny
namespace Go.Proofs.Ytlkfdnbgplkiiaa.Trace
open Go.RowKit Go.Proofs.Ytlkfdnbgplkiiaa.Ints Go.Proofs.Ytlkfdnbgplkiiaa.Mem

/-- slices.Contains, at a list of names. -/
theorem containsStr (A : Option Addr) (n c : Nat) (l : List (List UInt8)) (x : ByteArray) (w : World) (hl : l.length = n) (hn : n ≤ 1048576) (h : Strs w A l) :
    Calls Try.prog 26 #[.slice A n c, .string x] w fun e w' => e = .returned (.bool (decide (x.data.toList ∈ l))) ∧ w' = w := by
  subst hl
  by_cases h0 : l.length = 0
  · have : l = [] := List.eq_nil_of_length_eq_zero h0
    subst this
    exact Try.slices_Contains_string_empty A c x w
  · obtain ⟨b, off, rfl, hc⟩ := h (by omega)
    refine (Try.slices_Contains_string b off l.length c (l.map fun s => (⟨s.toArray⟩ : ByteArray)) x w (by rw [List.length_map]; exact Nat.le_refl _) (by omega) (fun j hj => ?_)).mono fun e w' ⟨he, hw⟩ => ⟨?_, hw⟩
    · rw [List.length_map] at hj
      rw [hc j _ (List.getElem?_eq_getElem hj)]
      simp [List.getD, hj, strS]
    · rw [he, List.take_of_length_le (by rw [List.length_map]; exact Nat.le_refl _)]
      congr 2
      rw [Bool.eq_iff_iff, Lib.containsS_iff, decide_eq_true_iff, List.mem_map]
      constructor
      · rintro ⟨s, hs, rfl⟩; exact hs
      · intro hx
        refine ⟨x.data.toList, hx, ?_⟩
        obtain ⟨⟨y⟩⟩ := x
        rfl
theorem strs_at {w : World} {b off : Nat} {l : List (List UInt8)} (h : ∀ (j : Nat) (s : List UInt8), l[j]? = some s → w.cell? ⟨b, off + j, none⟩ = some (strS s)) {k : Nat} (hk : k < l.length) :
    w.cell? ⟨b, off + k, none⟩ = some (.string ⟨(l.getD k []).toArray⟩) := by
  rw [h k _ (List.getElem?_eq_getElem hk)]
  simp [List.getD, hk, strS]

set_option maxHeartbeats 4000000 in
set_option maxRecDepth 100000 in
theorem refNames (A : Option Addr) (n c : Nat) (l : List (List UInt8)) (w : World) (hl : l.length = n) (hnc : n ≤ c) (h : Strs w A l) (hs : ∀ s ∈ l, s.length ≤ maxLen) :
    Calls Try.prog 11 #[.slice A n c] w fun e w' => e = .returned (.bool (namesOk l)) ∧ w' = w := by
  by_cases h64 : n ≤ 64
  · have hg : decide ((n : Int) > 64) = false := by simp; omega
    have hni : (n : Int) ≤ 64 := by omega
    have HL := Lib.hid hl
    have HD := Lib.hid h
    have HS := Lib.hid hs
    clear hl h hs
    go_enter Try.func11, Try.ntmps11
    go_wp2
    go_loop [10] (fun i => ∃ k : Nat, k ≤ n ∧ i = .int .i64 k ∧ Hid (∀ j, j < k → NameGood l j)) (fun i => n - (intOf i).toNat)
    case atStart => exact ⟨0, Nat.zero_le _, rfl, fun j hj => absurd hj (by omega)⟩
    case round =>
      obtain ⟨k, hk, rfl, HG⟩ := hrel
      by_cases hkn : k < n
      · have hkn' : (k : Int) < (n : Int) := by omega
        have hkl : k < l.length := by have := HL.out; omega
        obtain ⟨b, off, e, hc⟩ := HD.out (by omega)
        have x0 := strs_at hc hkl
        obtain ⟨s, hse⟩ : ∃ s : ByteArray, s = ⟨(l.getD k []).toArray⟩ := ⟨_, rfl⟩
        have hsd : s.data.toList = l.getD k [] := by rw [hse]
        rw [← hse] at x0
        have hsz : s.size ≤ maxLen := by
          have h1 := HS.out (l.getD k []) (by simp [List.getD, hkl])
          rw [← hsd, Array.length_toList] at h1
          exact h1
        have hN := fun W => Lex.refName s W hsz
        have hC := fun W (hb : W = w) => containsStr A k c (l.take k) s W (by rw [List.length_take]; omega) (by omega) (hb ▸ HD.out.take k)
        rw [hsd] at hN hC
        subst e
        have HKL := Lib.hid hkl
        clear hse hsd hsz hc hkl
        rcases hnm : Lex.nameS (l.getD k [])
        · have HR := Lib.hid (names_no HKL.out (fun e => by rw [e.1] at hnm; cases hnm))
          rw [hnm] at hN
          have HN := Lib.hid hN
          clear hN hC hnm
          go_wp2_with (go_at_call 27; refine (HN.out _).mono ?_; rintro e w' ⟨rfl, rfl⟩)
          go_ret
          exact ⟨by rw [HR.out]; rfl, rfl⟩
        · rw [hnm] at hN
          have HN := Lib.hid hN
          by_cases hin : l.getD k [] ∈ l.take k
          · have HR := Lib.hid (names_no HKL.out (fun e => e.2 hin))
            rw [decide_eq_true hin] at hC
            have HC := Lib.hid hC
            clear hN hC hnm hin
            go_wp2_with (first
              | (go_at_call 27; refine (HN.out _).mono ?_; rintro e w' ⟨rfl, rfl⟩)
              | (go_at_call 26; refine (HC.out _ rfl).mono ?_; rintro e w' ⟨rfl, rfl⟩))
            go_ret
            exact ⟨by rw [HR.out]; rfl, rfl⟩
          · have HZ := Lib.hid (good_more HG.out ⟨hnm, hin⟩)
            rw [decide_eq_false hin] at hC
            have HC := Lib.hid hC
            clear hN hC hnm hin
            go_wp2_with (first
              | (go_at_call 27; refine (HN.out _).mono ?_; rintro e w' ⟨rfl, rfl⟩)
              | (go_at_call 26; refine (HC.out _ rfl).mono ?_; rintro e w' ⟨rfl, rfl⟩))
            go_round
            case rel => exact ⟨k + 1, by omega, by go_num, HZ⟩
            case measure => simp [intOf]; omega
      · have hge : decide ((k : Int) < (n : Int)) = false := by simp; omega
        have HR := Lib.hid (names_yes (l := l) (by have := HL.out; omega) (fun j hj => HG.out j (by have := HL.out; omega)))
        go_wp2
        go_ret
        exact ⟨by rw [HR.out]; rfl, rfl⟩
  · have hg : decide ((n : Int) > 64) = true := by simp; omega
    have HR := Lib.hid (names_long (l := l) (by omega))
    clear hl h hs
    go_enter Try.func11, Try.ntmps11
    go_wp2
    go_ret
    exact ⟨by rw [HR.out]; rfl, rfl⟩

set_option maxHeartbeats 4000000 in
set_option maxRecDepth 100000 in
theorem refIds (A : Option Addr) (n c : Nat) (p : Int) (l : List Int) (w : World) (h : Rd .i64 w A n l) (hm : n ≤ maxLen) (hp : small64 p) :
    Calls Try.prog 13 #[.slice A n c, .int .i64 p] w fun e w' => e = .returned (.bool (idsOk l p)) ∧ w' = w := by
  have hni : (n : Int) ≤ 9223372036854775807 := by have : maxLen = 9223372036854775807 := rfl; omega
  obtain ⟨hp1, hp2⟩ := hp
  have HD := Lib.hid h
  have HL := Lib.hid h.len
  clear h hm
  go_enter Try.func13, Try.ntmps13
  go_wp2
  go_loop [9] (fun i => ∃ k : Nat, k ≤ n ∧ i = .int .i64 k ∧ Hid (∀ j, j < k → IdGood l p j)) (fun i => n - (intOf i).toNat)
  case atStart => exact ⟨0, Nat.zero_le _, rfl, fun j hj => absurd hj (by omega)⟩
  case round =>
    obtain ⟨k, hk, rfl, HG⟩ := hrel
    by_cases hkn : k < n
    · have hkn' : (k : Int) < (n : Int) := by omega
      obtain ⟨b, off, e, hc⟩ := HD.out.cell (by omega)
      have x0 := hc k hkn
      have hw := wf_i64 (HD.out.wf k hkn)
      have hgk : l.getD k 0 = l[k]?.getD 0 := by simp [List.getD]
      have hlen : k < l.length := by have := HL.out; omega
      obtain ⟨x, hx⟩ : ∃ x, l[k]?.getD 0 = x := ⟨_, rfl⟩
      rw [hx] at x0 hw hgk
      obtain ⟨hw1, hw2⟩ := hw
      subst e
      by_cases h1 : x < 0
      · have HR := Lib.hid (ids_no (p := p) hlen (fun e => by have := e.1; rw [hgk] at this; omega))
        clear hgk hlen hx hc
        go_wp2
        go_ret
        exact ⟨by rw [HR.out]; rfl, rfl⟩
      · have h1' : decide (x < 0) = false := decide_eq_false h1
        by_cases h2 : p ≤ x
        · have h2' : decide (x ≥ p) = true := decide_eq_true h2
          have HR := Lib.hid (ids_no (p := p) hlen (fun e => by have := e.2.1; rw [hgk] at this; omega))
          clear hgk hlen hx hc
          go_wp2
          go_ret
          exact ⟨by rw [HR.out]; rfl, rfl⟩
        · have h2' : decide (x ≥ p) = false := decide_eq_false h2
          by_cases h0 : k = 0
          · have HZ := Lib.hid (good_more HG.out (p := IdGood l p) (k := k) ⟨by rw [hgk]; omega, by rw [hgk]; omega, fun h => absurd h (by omega)⟩)
            clear hgk hlen hx hc
            subst h0
            rw [Nat.add_zero] at x0
            have hn0 : (0 : Int) < (n : Int) := by omega
            go_wp2
            go_round
            case rel => exact ⟨1, by omega, by go_num, HZ⟩
            case measure => simp [intOf]; omega
          · have h0' : decide ((k : Int) > 0) = true := by simp; omega
            have y0 := hc (k - 1) (by omega)
            have hgk2 : l.getD (k - 1) 0 = l[k - 1]?.getD 0 := by simp [List.getD]
            obtain ⟨y, hy⟩ : ∃ y, l[k - 1]?.getD 0 = y := ⟨_, rfl⟩
            rw [hy] at y0 hgk2
            have hk1 : (k : Int) - 1 = ((k - 1 : Nat) : Int) := by omega
            have hk2 : ((k - 1 : Nat) : Int) < (n : Int) := by omega
            by_cases h3 : x ≤ y
            · have HR := Lib.hid (ids_no (p := p) hlen (fun e => by have := e.2.2 (by omega); rw [hgk, hgk2] at this; omega))
              clear hgk hgk2 hlen hx hy hc
              go_wp2
              go_ret
              exact ⟨by rw [HR.out]; rfl, rfl⟩
            · have h3' : decide (x ≤ y) = false := decide_eq_false h3
              have HZ := Lib.hid (good_more HG.out (p := IdGood l p) (k := k) ⟨by rw [hgk]; omega, by rw [hgk]; omega, fun _ => by rw [hgk, hgk2]; omega⟩)
              clear hgk hgk2 hlen hx hy hc
              go_wp2
              go_round
              case rel => exact ⟨k + 1, by omega, by go_num, HZ⟩
              case measure => simp [intOf]; omega
    · have hge : decide ((k : Int) < (n : Int)) = false := by simp; omega
      have HR := Lib.hid (ids_yes (l := l) (p := p) (fun j hj => HG.out j (by have := HL.out; omega)))
      go_wp2
      go_ret
      exact ⟨by rw [HR.out]; rfl, rfl⟩
end Go.Proofs.Ytlkfdnbgplkiiaa.Trace
