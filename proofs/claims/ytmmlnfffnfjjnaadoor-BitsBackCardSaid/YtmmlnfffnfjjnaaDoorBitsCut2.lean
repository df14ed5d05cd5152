/-
  The walk of the reference's Cut; both told of any number. By an AI agent.
-/
import Derived.Test.YtmmlnfffnfjjnaaDoorBitsCut
import Derived.Test.YtmmlnfffnfjjnaaDoorBitsMake3
namespace Go.Proofs.YtmmlnfffnfjjnaaDoor.BitsWalks
open Go.RowKit Go.Proofs.YtmmlnfffnfjjnaaDoor.Ints Go.Proofs.YtmmlnfffnfjjnaaDoor.Words Go.Proofs.YtmmlnfffnfjjnaaDoor.RdW

/-- The first k are f's, the others g's. -/
def mix (n k : Nat) (f g : Nat → Nat) : List Nat := (List.range n).map fun i => if i < k then f i else g i
theorem mix_len (n k : Nat) (f g : Nat → Nat) : (mix n k f g).length = n := by simp [mix]
theorem mix_at (n k : Nat) (f g : Nat → Nat) (j : Nat) : (mix n k f g)[j]?.getD 0 = if j < n then (if j < k then f j else g j) else 0 := by
  unfold mix
  by_cases h : j < n
  · by_cases h2 : j < k <;> simp [h, h2]
  · simp [h]
theorem mix_zero {n : Nat} {xs : List Nat} (f : Nat → Nat) (h : xs.length = n) : mix n 0 f (wd xs) = xs := by
  apply list_ext
  · rw [mix_len, h]
  · intro j hj
    rw [mix_len] at hj
    rw [mix_at, if_pos hj, if_neg (by omega)]
    rfl
theorem mix_all (n : Nat) (f g : Nat → Nat) : mix n n f g = tab n f := by
  apply list_ext
  · rw [mix_len, tab_len]
  · intro j hj
    rw [mix_len] at hj
    rw [mix_at, tab_at, if_pos hj, if_pos hj]
    exact (if_pos hj).symm
theorem mix_set (n k : Nat) (f g : Nat → Nat) : (mix n k f g).set k (f k) = mix n (k + 1) f g := by
  apply list_ext
  · rw [List.length_set, mix_len, mix_len]
  · intro j hj
    rw [List.length_set, mix_len] at hj
    rw [mix_at, List.getElem?_set, mix_len]
    by_cases h : k = j
    · subst h; simp [hj]
    · rw [if_neg h, mix_at, if_pos hj, if_pos hj]
      by_cases h2 : j < k
      · rw [if_pos h2, if_pos (by omega)]
      · rw [if_neg h2, if_neg (by omega)]
theorem mix_same (n k : Nat) (f g : Nat → Nat) (h : f k = g k) : mix n k f g = mix n (k + 1) f g := by
  apply list_ext
  · rw [mix_len, mix_len]
  · intro j hj
    rw [mix_len] at hj
    rw [mix_at, mix_at, if_pos hj, if_pos hj]
    by_cases h1 : j = k
    · subst h1; simp [h]
    · by_cases h2 : j < k
      · rw [if_pos h2, if_pos (by omega)]
      · rw [if_neg h2, if_neg (by omega)]
theorem mix_now {n k : Nat} (f g : Nat → Nat) (h : k < n) : wd (mix n k f g) k = g k := by
  unfold wd
  rw [mix_at, if_pos h, if_neg (by omega)]

/-- Word i of the numbers below k. -/
def cutW (xs : List Nat) (k : Int) (i : Nat) : Nat :=
  if k ≤ 0 then 0 else if k.toNat / 64 < i then 0 else if k.toNat / 64 = i then wd xs i % 2 ^ (k.toNat % 64) else wd xs i
theorem cutW_le (xs : List Nat) (k : Int) (i : Nat) : cutW xs k i ≤ wd xs i := by
  unfold cutW
  split
  · omega
  · split
    · omega
    · split
      · exact Nat.mod_le _ _
      · omega
theorem cutW_bit (xs : List Nat) (k : Int) (i : Nat) : (cutW xs k (i / 64)).testBit (i % 64) = (has xs i && decide ((i : Int) < k)) := by
  unfold cutW
  by_cases h0 : k ≤ 0
  · have : decide ((i : Int) < k) = false := by simp; omega
    rw [if_pos h0, this]; simp
  · rw [if_neg h0]
    by_cases h1 : k.toNat / 64 < i / 64
    · have : decide ((i : Int) < k) = false := by simp; omega
      rw [if_pos h1, this]; simp
    · rw [if_neg h1]
      by_cases h2 : k.toNat / 64 = i / 64
      · rw [if_pos h2, Nat.testBit_mod_two_pow]
        have e : decide (i % 64 < k.toNat % 64) = decide ((i : Int) < k) := by
          congr 1
          apply propext
          omega
        rw [e, Bool.and_comm]; rfl
      · have : decide ((i : Int) < k) = true := by simp; omega
        rw [if_neg h2, this]; simp [has, wd]

section
variable (A B : Option Addr) (n c m d : Nat) (xs ys : List Nat) (w : World)

theorem cut_ (k : Int) (hk : k ≤ 9223372036854775807) (hn : n ≤ 1048576) (h : RdW w A n xs) :
    Calls Tryd.prog 27 #[.slice A n c, .int .i64 k] w (GotSet w n (fun i => has xs i && decide ((i : Int) < k))) := by
  by_cases h0 : k ≤ 0
  · exact cutNone A n c xs w k n h0
  · obtain ⟨N, rfl⟩ := Int.eq_ofNat_of_zero_le (show 0 ≤ k by omega)
    exact (cutSome A n c xs w N (by omega) (by omega) hn h).mono fun e w' hg => hg.after (Below.refl _ _) (Nat.le_refl _) (fun i => by simp)

set_option maxHeartbeats 1000000 in
theorem refCut (k : Int) (hk : k ≤ 9223372036854775807) (hn : n ≤ 1048576) (h : RdW w A n xs) :
    Calls Tryd.prog 28 #[.slice A n c, .int .i64 k] w (GotSet w n (fun i => has xs i && decide ((i : Int) < k))) := by
  obtain ⟨i0, hi, hz0, hz1, hz2⟩ := info_parts infoW
  have hws := h.ws
  have q1 : 0 + n ≤ maxLen := by unfold maxLen; omega
  have q2 : (0 + n) * 8 ≤ 140737488355328 := by omega
  have q3 : w.heap.size ≤ (w.alloc (.cells #[] 39)).heap.size := by simp
  have hfz : ∀ j, n ≤ j → cutW xs k j = 0 := fun j hj => by
    have e : wd xs j = 0 := out_getD (by rw [h.len]; omega)
    have := cutW_le xs k j
    omega
  have hfl : ∀ j, cutW xs k j < 18446744073709551616 := fun j => Nat.lt_of_le_of_lt (cutW_le xs k j) (hws j)
  have hfb := cutW_bit xs k
  have hm0 := mix_zero (cutW xs k) h.len
  obtain ⟨f, hf⟩ : ∃ f, cutW xs k = f := ⟨_, rfl⟩
  have hfj : ∀ j, cutW xs k j = f j := fun j => by rw [hf]
  rw [hf] at hfz hfl hfb hm0
  have HFZ := Lib.hid hfz
  have HFL := Lib.hid hfl
  have HFB := Lib.hid hfb
  have HFJ := Lib.hid hfj
  clear hf hfz hfl hfb hfj
  go_enter Tryd.func28, Tryd.ntmps28
  go_wp2_with (at_builtin; refine wpList_append_ints rfl _ _ 23 rfl .u64 w.heap.size 39 i0 8 Tryd.underlying23 hi hz0 hz1 hz2 (.slice (some ⟨w.heap.size, 0, none⟩) 0 0) 0 [] rfl (World.ownsRow_made w #[] 0 (Nat.le_refl _) (by decide) rfl) _ _ _ (ints xs) rfl (Rd.alloc h _) q1 q2 q3 ?_; intro v' w1 hown hgr; simp only [Nat.zero_add, List.nil_append] at hown; have hB1 : Below w.heap.size w w1 := ((Below.refl _ _).alloc (Nat.le_refl _) _).grown hgr (by simp) (by rintro k hk; simp [Value.ownBlock] at hk; omega); have hform := fun h0 => own_form hown h0; obtain ⟨D, cD, rfl, hcD, hmD, _, hbD⟩ := own_slice hown)
  rw [← hm0] at hown
  clear hm0 hgr
  have HFM := Lib.hid hform
  clear hform
  go_loopw [12] (fun i wr => ∃ j : Nat, j ≤ n ∧ i = .int .i64 j ∧ wr.ownsRow w.heap.size 39 1 (.slice D n cD) n ((ints (mix n j f (wd xs))).map (Value.int .u64)) ∧ Below w.heap.size w wr) (fun i _ => n - (intOf i).toNat)
  case atStart => exact ⟨0, Nat.zero_le _, rfl, hown, hB1⟩
  case round =>
    obtain ⟨j, hj, rfl, hrow, hB⟩ := hrel
    clear hown hB1
    by_cases h1 : j < n
    · have hjn : (j : Int) < (n : Int) := by omega
      obtain ⟨g, cg, e1, hg, _⟩ := HFM.out (by omega)
      injection e1 with e1 e2 e3
      subst e1; subst e3
      have hc1 := own_cell hrow h1
      have hc2 := hrow.frozenAt j
      rw [ints_at] at hc1
      have hmn : (mix n j f (wd xs))[j]?.getD 0 = wd xs j := mix_now f (wd xs) h1
      rw [hmn] at hc1
      have HR := Lib.hid hrow
      have HB := Lib.hid hB
      clear hrow hB hmn
      have hfin : HFJ = HFJ := rfl
      clear hfin
      have done : ∀ (v : Nat), f j = v → ((wr.setCell ⟨g, j, none⟩ (.int .u64 (v : Int))).ownsRow w.heap.size 39 1 (.slice (some ⟨g, 0, none⟩) n cD) n ((ints (mix n (j + 1) f (wd xs))).map (Value.int .u64))) ∧ Below w.heap.size w (wr.setCell ⟨g, j, none⟩ (.int .u64 (v : Int))) := by
        intro v hv
        subst hv
        refine ⟨?_, HB.out.setCell hg _⟩
        have := own_set HR.out j (f j : Int)
        rwa [ints_set, mix_set] at this
      have HD := Lib.hid done
      clear done
      have hf1 := HFJ.out j
      unfold cutW at hf1
      by_cases h0 : k ≤ 0
      · rw [if_pos h0] at hf1
        have HV := Lib.hid hf1
        clear hf1
        go_wp2
        go_roundw
        case rel => exact ⟨j + 1, by omega, by go_num, HD.out 0 HV.out.symm⟩
        case measure => simp [intOf]; omega
      · rw [if_neg h0] at hf1
        obtain ⟨N, rfl⟩ := Int.eq_ofNat_of_zero_le (show 0 ≤ k by omega)
        simp only [Int.toNat_natCast] at hf1
        obtain ⟨p, hp⟩ : ∃ p, N / 64 = p := ⟨_, rfl⟩
        obtain ⟨b, hb⟩ : ∃ b, N % 64 = b := ⟨_, rfl⟩
        rw [hp, hb] at hf1
        have e1 : (N : Int) / 64 = (p : Int) := by omega
        have e2 : (N : Int) % 64 = (b : Int) := by omega
        have e3 : (b : Int) ≤ 64 := by omega
        have e4 : IntKind.u64.wrap (b : Int) = (b : Int) := by rw [IntKind.wrap_u64]; omega
        have hpb : (p : Int) ≤ 1152921504606846976 := by omega
        have HPB := Lib.hid (show b < 64 by omega)
        clear hp hb
        by_cases h2 : p < j
        · rw [if_pos h2] at hf1
          have HV := Lib.hid hf1
          have h2' : (p : Int) < (j : Int) := by omega
          clear hf1
          go_wp2
          go_roundw
          case rel => exact ⟨j + 1, by omega, by go_num, HD.out 0 HV.out.symm⟩
          case measure => simp [intOf]; omega
        · rw [if_neg h2] at hf1
          have h2' : ¬ (p : Int) < (j : Int) := by omega
          by_cases h3 : p = j
          · rw [if_pos h3] at hf1
            subst h3
            have e5 := mask_low (wd xs p) b (hws p) HPB.out
            rw [hf1] at e5
            have HV := Lib.hid (show f p = f p from rfl)
            clear hf1
            go_wp2
            go_roundw
            case rel => exact ⟨p + 1, by omega, by go_num, HD.out _ rfl⟩
            case measure => simp [intOf]; omega
          · rw [if_neg h3] at hf1
            have h3' : ¬ (p : Int) = (j : Int) := by omega
            have hsame := mix_same n j f (wd xs) hf1.symm
            have HS := Lib.hid hsame
            clear hf1 hsame
            go_wp2
            go_roundw
            case rel => exact ⟨j + 1, by omega, by go_num, by rw [← HS.out]; exact HR.out, HB.out⟩
            case measure => simp [intOf]; omega
    · have e : j = n := by omega
      subst e
      rw [mix_all] at hrow
      have hws2 : Ws (tab j f) := fun i => by
        rw [tab_at]
        split
        · exact HFL.out i
        · omega
      have hgot := refTrim D j cD (tab j f) wr hn hcD hmD (RdW.own hrow hws2)
      have HG := Lib.hid hgot
      have HB := Lib.hid hB
      clear hgot hB hrow
      go_wp2_with fail
      refine HG.out.mono ?_
      intro e w2 hg1
      have hgot := hg1.after HB.out (Nat.le_refl _) (g := fun i => has xs i && decide ((i : Int) < k)) (fun i => by rw [has_tab HFZ.out, HFB.out])
      clear hg1
      obtain ⟨E, n2, c2, zs, rfl, hgot⟩ := hgot
      go_wp2
      go_ret
      exact ⟨E, n2, c2, zs, rfl, hgot⟩
end
end Go.Proofs.YtmmlnfffnfjjnaaDoor.BitsWalks
