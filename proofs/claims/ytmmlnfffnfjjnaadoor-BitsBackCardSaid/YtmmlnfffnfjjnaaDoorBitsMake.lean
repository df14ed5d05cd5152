/-
  The walks of package bits: what makes a set: Or. By an AI agent.
-/
import Derived.Test.YtmmlnfffnfjjnaaDoorBitsWalks2
import Derived.OwnWalk
import Derived.Lib.MinMax
import Derived.RegionTactic
import Derived.BigRegion
import Derived.Laws.CopyOwn
namespace Go.Proofs.YtmmlnfffnfjjnaaDoor.BitsWalks
open Go.RowKit Go.Proofs.YtmmlnfffnfjjnaaDoor.Ints Go.Proofs.YtmmlnfffnfjjnaaDoor.Words Go.Proofs.YtmmlnfffnfjjnaaDoor.RdW

/-- The call hands back a set of its own or a part of it: what is in it, f says; at most L words; nothing that was there has changed. -/
def GotSet (w : World) (L : Nat) (f : Nat → Bool) (e : Ending) (w' : World) : Prop :=
  ∃ (A : Option Addr) (n c : Nat) (zs : List Nat), e = .returned (.slice A n c) ∧ IsSet zs f ∧ RdW w' A n zs ∧ n ≤ c ∧ c ≤ maxLen ∧ n ≤ L ∧ Below w.heap.size w w'

theorem infoW : (Tryd.prog.info? 39).map (fun i => (i.zero, i.size, i.bytes)) = some (some (.int .u64 0), 1, 8) := by kernel_rfl

/-- A row of words of the call's own. -/
abbrev Row (w : World) (base g K c : Nat) (xs : List Nat) : Prop := w.ownsRow base 39 1 (.slice (some ⟨g, 0, none⟩) K c) K ((ints xs).map (Value.int .u64))
theorem made_words (n : Nat) : (madeCells (Value.int .u64 0).cells (n * 1)).toList = (ints (List.replicate n 0)).map (Value.int .u64) := by
  rw [Nat.mul_one]
  apply List.ext_getElem
  · simp [madeCells, ints]
  · intro i h1 h2
    have e : (Value.int .u64 0).cells = #[Value.int .u64 0] := rfl
    simp [madeCells, ints, e, Nat.mod_one]

section
variable {w : World}
theorem Row.reads {base g K c : Nat} {xs : List Nat} (h : Row w base g K c xs) (hw : Ws xs) : RdW w (some ⟨g, 0, none⟩) K xs := RdW.own h hw
theorem Row.set {base g K c : Nat} {xs : List Nat} (h : Row w base g K c xs) (j x : Nat) : Row (w.setCell ⟨g, j, none⟩ (.int .u64 x)) base g K c (xs.set j x) := by
  have := own_set h j (x : Int)
  rwa [ints_set] at this
theorem Row.cell {base g K c : Nat} {xs : List Nat} (h : Row w base g K c xs) {j : Nat} (hj : j < K) : w.cell? ⟨g, j, none⟩ = some (.int .u64 (wd xs j : Nat)) := by
  rw [own_cell h hj, ints_at]; rfl
theorem Row.caps {base g K c : Nat} {xs : List Nat} (h : Row w base g K c xs) : K ≤ c ∧ c ≤ maxLen := by
  obtain ⟨A, c', e, h1, h2, _⟩ := own_slice h
  injection e with _ _ e
  subst e
  exact ⟨h1, h2⟩
/-- A part of the row, up to n, as a set that is handed back. -/
theorem GotSet.row {w0 : World} {base g K c n L : Nat} {xs : List Nat} {f : Nat → Bool} (h : Row w base g K c xs) (hw : Ws xs) (hn : n ≤ K) (hL : n ≤ L) (hs : IsSet (xs.take n) f) (hb : Below w0.heap.size w0 w) :
    GotSet w0 L f (.returned (.slice (some ⟨g, 0, none⟩) n c)) w :=
  ⟨_, n, c, _, rfl, hs, (h.reads hw).take hn, Nat.le_trans hn h.caps.1, h.caps.2, hL, hb⟩
theorem GotSet.all {w0 : World} {base g K c L : Nat} {xs : List Nat} {f : Nat → Bool} (h : Row w base g K c xs) (hL : K ≤ L) (hs : IsSet xs f) (hb : Below w0.heap.size w0 w) :
    GotSet w0 L f (.returned (.slice (some ⟨g, 0, none⟩) K c)) w :=
  ⟨_, K, c, _, rfl, hs, h.reads hs.1, h.caps.1, h.caps.2, hL, hb⟩
end

section
variable (A B : Option Addr) (n c m d : Nat) (xs ys : List Nat) (w : World)

set_option maxHeartbeats 400000 in
theorem or_ (hn : n ≤ 1048576) (hm : m ≤ 1048576) (h : RdW w A n xs) (h' : RdW w B m ys) :
    Calls Tryd.prog 20 #[.slice A n c, .slice B m d] w (GotSet w (max n m) (fun k => has xs k || has ys k)) := by
  obtain ⟨i0, hi, hz0, hz1, hz2⟩ := info_parts infoW
  have hw1 := h.ws
  have hw2 := h'.ws
  go_enter Tryd.func20, Tryd.ntmps20
  go_wp2_with fail
  refine (used A n c xs w (by unfold maxLen; omega) h).mono ?_
  rintro e w' ⟨p, rfl, hp, rfl⟩
  go_wp2_with fail
  refine (used B m d ys w (by unfold maxLen; omega) h').mono ?_
  rintro e w' ⟨q, rfl, hq, rfl⟩
  have hpn : p ≤ n := by rw [← h.len]; exact hp.1
  have hqm : q ≤ m := by rw [← h'.len]; exact hq.1
  obtain ⟨K, hK⟩ : ∃ K, max p q = K := ⟨_, rfl⟩
  have hKi : max (p : Int) (q : Int) = (K : Int) := by omega
  have b1 : i0.bytes * K ≤ 281474976710656 := by rw [hz2]; omega
  have b2 : K ≤ maxLen := by unfold maxLen; omega
  have HP := Lib.hid hp
  have HQ := Lib.hid hq
  have HK := Lib.hid hK
  clear hp hq hK
  go_wp2_with (at_make; refine wpList_make_full _ rfl _ _ 23 rfl w.heap.size 39 i0 (.int .u64 0) 1 Tryd.underlying23 hi hz0 hz1 .i64 .i64 _ _ K rfl rfl (by omega) (by omega) b1 b2 (Nat.le_refl _) ?_; intro w1 hmade hgr1; rw [made_words] at hmade)
  obtain ⟨f, hf⟩ : ∃ f : Nat → Nat, (fun j => wd xs j ||| wd ys j) = f := ⟨_, rfl⟩
  have hfj : ∀ j, wd xs j ||| wd ys j = f j := fun j => by rw [← hf]
  have hmade' : Row w1 w.heap.size w.heap.size K K (fill K 0 f) := by rw [fill_zero]; exact hmade
  have hB1 : Below w.heap.size w w1 := (Below.refl _ _).grown hgr1 (Nat.le_refl _) (by simp)
  clear hmade hgr1 hf
  have HF := Lib.hid hfj
  clear hfj
  go_loopw [15] (fun i wr => ∃ k : Nat, k ≤ K ∧ i = .int .i64 k ∧ Row wr w.heap.size w.heap.size K K (fill K k f) ∧ Below w.heap.size w wr) (fun i _ => K - (intOf i).toNat)
  case atStart => exact ⟨0, Nat.zero_le _, rfl, hmade', hB1⟩
  case round =>
    obtain ⟨k, hk, rfl, hrow, hB⟩ := hrel
    clear hmade' hB1
    have hA := h.below hB
    have hA' := h'.below hB
    by_cases h0 : k < K
    · have hk0 : (k : Int) < (K : Int) := by omega
      have hc1 := hrow.cell h0
      have hc2 := hrow.frozenAt k
      have hb := bits_or_u64_nat (wd xs k) (wd ys k) (hw1 k) (hw2 k)
      rw [HF.out] at hb
      have HR := Lib.hid hrow
      clear hrow
      go_wp2_with fail
      refine (word A n c xs wr k hA).mono ?_
      rintro e w' ⟨rfl, rfl⟩
      go_wp2_with fail
      refine (word B m d ys wr k hA').mono ?_
      rintro e w' ⟨rfl, rfl⟩
      go_wp2
      go_roundw
      case rel =>
        exact ⟨k + 1, by omega, by go_num, by have := HR.out.set k (f k); rwa [fill_set] at this, hB.setCell (Nat.le_refl _) _⟩
      case measure => simp [intOf]; omega
    · have h1 : k = K := by omega
      subst h1
      go_wp2
      go_ret
      rw [fill_all _ _ _ (Nat.le_refl _)] at hrow
      refine GotSet.all hrow (by have := HK.out; omega) (tab_set (fun j => ?_) (fun j hj => ?_) (fun h0 => ?_) (fun i => ?_)) hB
      · rw [← HF.out]; exact or_lt (hw1 j) (hw2 j)
      · have e1 : wd xs j = 0 := HP.out.2.1 j (by have := HK.out; omega)
        have e2 : wd ys j = 0 := HQ.out.2.1 j (by have := HK.out; omega)
        rw [← HF.out, e1, e2]; rfl
      · rw [← HF.out]
        have l1 := Nat.left_le_or (n := wd xs (k - 1)) (m := wd ys (k - 1))
        have l2 := Nat.right_le_or (n := wd xs (k - 1)) (m := wd ys (k - 1))
        rcases Nat.le_total p q with hpq | hpq
        · have e : k = q := by have := HK.out; omega
          have := HQ.out.2.2 (by omega)
          rw [← e] at this
          have h3 : wd ys (k - 1) ≠ 0 := this
          omega
        · have e : k = p := by have := HK.out; omega
          have := HP.out.2.2 (by omega)
          rw [← e] at this
          have h3 : wd xs (k - 1) ≠ 0 := this
          omega
      · rw [← HF.out, Nat.testBit_or]; rfl
end
end Go.Proofs.YtmmlnfffnfjjnaaDoor.BitsWalks
