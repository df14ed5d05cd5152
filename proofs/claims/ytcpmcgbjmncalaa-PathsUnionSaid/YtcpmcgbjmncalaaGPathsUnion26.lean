/-
  The walk of the reference's Cut; both told of any number. By an AI agent.
  The law's points: sets of one word each (stage 14). By an AI agent.
-/
import Derived.Test.YtcpmcgbjmncalaaGPathsUnion25
import Derived.Test.YtcpmcgbjmncalaaGPathsUnion24
import Derived.Test.YtcpmcgbjmncalaaGPathsUnion10
import Derived.Test.YtcpmcgbjmncalaaGPathsUnion18
namespace Go.Proofs.Ytcpmcgbjmncalaa.BitsWalks
open Go.RowKit Go.Proofs.Ytcpmcgbjmncalaa.Ints Go.Proofs.Ytcpmcgbjmncalaa.Words Go.Proofs.Ytcpmcgbjmncalaa.RdW

/-- The first k are f's, the others g's. -/
def mix (n k : Nat) (f g : Nat → Nat) : List Nat := (List.range n).map fun i => if i < k then f i else g i
theorem mix_len (n k : Nat) (f g : Nat → Nat) : (mix n k f g).length = n := by simp [mix]
theorem mix_at (n k : Nat) (f g : Nat → Nat) (j : Nat) : (mix n k f g)[j]?.getD 0 = if j < n then (if j < k then f j else g j) else 0 := by
  unfold mix
  by_cases h : j < n
  · by_cases h2 : j < k <;> simp [h, h2]
  · simp [h]
theorem mix_zero {n : Nat} {xs : List Nat} (f : Nat → Nat) (h : xs.length = n) : mix n 0 f (wd xs) = xs := by
  apply list_ext
  · rw [mix_len, h]
  · intro j hj
    rw [mix_len] at hj
    rw [mix_at, if_pos hj, if_neg (by omega)]
    rfl
theorem mix_all (n : Nat) (f g : Nat → Nat) : mix n n f g = tab n f := by
  apply list_ext
  · rw [mix_len, tab_len]
  · intro j hj
    rw [mix_len] at hj
    rw [mix_at, tab_at, if_pos hj, if_pos hj]
    exact (if_pos hj).symm
theorem mix_set (n k : Nat) (f g : Nat → Nat) : (mix n k f g).set k (f k) = mix n (k + 1) f g := by
  apply list_ext
  · rw [List.length_set, mix_len, mix_len]
  · intro j hj
    rw [List.length_set, mix_len] at hj
    rw [mix_at, List.getElem?_set, mix_len]
    by_cases h : k = j
    · subst h; simp [hj]
    · rw [if_neg h, mix_at, if_pos hj, if_pos hj]
      by_cases h2 : j < k
      · rw [if_pos h2, if_pos (by omega)]
      · rw [if_neg h2, if_neg (by omega)]
theorem mix_same (n k : Nat) (f g : Nat → Nat) (h : f k = g k) : mix n k f g = mix n (k + 1) f g := by
  apply list_ext
  · rw [mix_len, mix_len]
  · intro j hj
    rw [mix_len] at hj
    rw [mix_at, mix_at, if_pos hj, if_pos hj]
    by_cases h1 : j = k
    · subst h1; simp [h]
    · by_cases h2 : j < k
      · rw [if_pos h2, if_pos (by omega)]
      · rw [if_neg h2, if_neg (by omega)]
theorem mix_now {n k : Nat} (f g : Nat → Nat) (h : k < n) : wd (mix n k f g) k = g k := by
  unfold wd
  rw [mix_at, if_pos h, if_neg (by omega)]

/-- Word i of the numbers below k. -/
def cutW (xs : List Nat) (k : Int) (i : Nat) : Nat :=
  if k ≤ 0 then 0 else if k.toNat / 64 < i then 0 else if k.toNat / 64 = i then wd xs i % 2 ^ (k.toNat % 64) else wd xs i
theorem cutW_le (xs : List Nat) (k : Int) (i : Nat) : cutW xs k i ≤ wd xs i := by
  unfold cutW
  split
  · omega
  · split
    · omega
    · split
      · exact Nat.mod_le _ _
      · omega
theorem cutW_bit (xs : List Nat) (k : Int) (i : Nat) : (cutW xs k (i / 64)).testBit (i % 64) = (has xs i && decide ((i : Int) < k)) := by
  unfold cutW
  by_cases h0 : k ≤ 0
  · have : decide ((i : Int) < k) = false := by simp; omega
    rw [if_pos h0, this]; simp
  · rw [if_neg h0]
    by_cases h1 : k.toNat / 64 < i / 64
    · have : decide ((i : Int) < k) = false := by simp; omega
      rw [if_pos h1, this]; simp
    · rw [if_neg h1]
      by_cases h2 : k.toNat / 64 = i / 64
      · rw [if_pos h2, Nat.testBit_mod_two_pow]
        have e : decide (i % 64 < k.toNat % 64) = decide ((i : Int) < k) := by
          congr 1
          apply propext
          omega
        rw [e, Bool.and_comm]; rfl
      · have : decide ((i : Int) < k) = true := by simp; omega
        rw [if_neg h2, this]; simp [has, wd]

section
variable (A B : Option Addr) (n c m d : Nat) (xs ys : List Nat) (w : World)

set_option maxRecDepth 100000 in
set_option maxHeartbeats 1000000 in
theorem refCut (k : Int) (hk : k ≤ 9223372036854775807) (hn : n ≤ 1048576) (h : RdW w A n xs) :
    Calls Try.prog 37 #[.slice A n c, .int .i64 k] w (GotSet w n (fun i => has xs i && decide ((i : Int) < k))) := by
  obtain ⟨i0, hi, hz0, hz1, hz2⟩ := info_parts infoW
  have hws := h.ws
  have q1 : 0 + n ≤ maxLen := by unfold maxLen; omega
  have q2 : (0 + n) * 8 ≤ 140737488355328 := by omega
  have q3 : w.heap.size ≤ (w.alloc (.cells #[] 62)).heap.size := by simp
  have hfz : ∀ j, n ≤ j → cutW xs k j = 0 := fun j hj => by
    have e : wd xs j = 0 := out_getD (by rw [h.len]; omega)
    have := cutW_le xs k j
    omega
  have hfl : ∀ j, cutW xs k j < 18446744073709551616 := fun j => Nat.lt_of_le_of_lt (cutW_le xs k j) (hws j)
  have hfb := cutW_bit xs k
  have hm0 := mix_zero (cutW xs k) h.len
  obtain ⟨f, hf⟩ : ∃ f, cutW xs k = f := ⟨_, rfl⟩
  have hfj : ∀ j, cutW xs k j = f j := fun j => by rw [hf]
  rw [hf] at hfz hfl hfb hm0
  have HFZ := Lib.hid hfz
  have HFL := Lib.hid hfl
  have HFB := Lib.hid hfb
  have HFJ := Lib.hid hfj
  clear hf hfz hfl hfb hfj
  go_enter Try.func37, Try.ntmps37
  go_wp2_with (at_builtin; refine wpList_append_ints rfl _ _ 35 rfl .u64 w.heap.size 62 i0 8 Try.underlying35 hi hz0 hz1 hz2 (.slice (some ⟨w.heap.size, 0, none⟩) 0 0) 0 [] rfl (World.ownsRow_made w #[] 0 (Nat.le_refl _) (by decide) rfl) _ _ _ (ints xs) rfl (Rd.alloc h _) q1 q2 q3 ?_; intro v' w1 hown hgr; simp only [Nat.zero_add, List.nil_append] at hown; have hB1 : Below w.heap.size w w1 := ((Below.refl _ _).alloc (Nat.le_refl _) _).grown hgr (by simp) (by rintro k hk; simp [Value.ownBlock] at hk; omega); have hform := fun h0 => own_form hown h0; obtain ⟨D, cD, rfl, hcD, hmD, _, hbD⟩ := own_slice hown)
  rw [← hm0] at hown
  clear hm0 hgr
  have HFM := Lib.hid hform
  clear hform
  go_loopw [12] (fun i wr => ∃ j : Nat, j ≤ n ∧ i = .int .i64 j ∧ wr.ownsRow w.heap.size 62 1 (.slice D n cD) n ((ints (mix n j f (wd xs))).map (Value.int .u64)) ∧ Below w.heap.size w wr) (fun i _ => n - (intOf i).toNat)
  case atStart => exact ⟨0, Nat.zero_le _, rfl, hown, hB1⟩
  case round =>
    obtain ⟨j, hj, rfl, hrow, hB⟩ := hrel
    clear hown hB1
    by_cases h1 : j < n
    · have hjn : (j : Int) < (n : Int) := by omega
      obtain ⟨g, cg, e1, hg, _⟩ := HFM.out (by omega)
      injection e1 with e1 e2 e3
      subst e1; subst e3
      have hc1 := own_cell hrow h1
      have hc2 := hrow.frozenAt j
      rw [ints_at] at hc1
      have hmn : (mix n j f (wd xs))[j]?.getD 0 = wd xs j := mix_now f (wd xs) h1
      rw [hmn] at hc1
      have HR := Lib.hid hrow
      have HB := Lib.hid hB
      clear hrow hB hmn
      have hfin : HFJ = HFJ := rfl
      clear hfin
      have done : ∀ (v : Nat), f j = v → ((wr.setCell ⟨g, j, none⟩ (.int .u64 (v : Int))).ownsRow w.heap.size 62 1 (.slice (some ⟨g, 0, none⟩) n cD) n ((ints (mix n (j + 1) f (wd xs))).map (Value.int .u64))) ∧ Below w.heap.size w (wr.setCell ⟨g, j, none⟩ (.int .u64 (v : Int))) := by
        intro v hv
        subst hv
        refine ⟨?_, HB.out.setCell hg _⟩
        have := own_set HR.out j (f j : Int)
        rwa [ints_set, mix_set] at this
      have HD := Lib.hid done
      clear done
      have hf1 := HFJ.out j
      unfold cutW at hf1
      by_cases h0 : k ≤ 0
      · rw [if_pos h0] at hf1
        have HV := Lib.hid hf1
        clear hf1
        go_wp2
        go_roundw
        case rel => exact ⟨j + 1, by omega, by go_num, HD.out 0 HV.out.symm⟩
        case measure => simp [intOf]; omega
      · rw [if_neg h0] at hf1
        obtain ⟨N, rfl⟩ := Int.eq_ofNat_of_zero_le (show 0 ≤ k by omega)
        simp only [Int.toNat_natCast] at hf1
        obtain ⟨p, hp⟩ : ∃ p, N / 64 = p := ⟨_, rfl⟩
        obtain ⟨b, hb⟩ : ∃ b, N % 64 = b := ⟨_, rfl⟩
        rw [hp, hb] at hf1
        have e1 : (N : Int) / 64 = (p : Int) := by omega
        have e2 : (N : Int) % 64 = (b : Int) := by omega
        have e3 : (b : Int) ≤ 64 := by omega
        have e4 : IntKind.u64.wrap (b : Int) = (b : Int) := by rw [IntKind.wrap_u64]; omega
        have hpb : (p : Int) ≤ 1152921504606846976 := by omega
        have HPB := Lib.hid (show b < 64 by omega)
        clear hp hb
        by_cases h2 : p < j
        · rw [if_pos h2] at hf1
          have HV := Lib.hid hf1
          have h2' : (p : Int) < (j : Int) := by omega
          clear hf1
          go_wp2
          go_roundw
          case rel => exact ⟨j + 1, by omega, by go_num, HD.out 0 HV.out.symm⟩
          case measure => simp [intOf]; omega
        · rw [if_neg h2] at hf1
          have h2' : ¬ (p : Int) < (j : Int) := by omega
          by_cases h3 : p = j
          · rw [if_pos h3] at hf1
            subst h3
            have e5 := mask_low (wd xs p) b (hws p) HPB.out
            rw [hf1] at e5
            have HV := Lib.hid (show f p = f p from rfl)
            clear hf1
            go_wp2
            go_roundw
            case rel => exact ⟨p + 1, by omega, by go_num, HD.out _ rfl⟩
            case measure => simp [intOf]; omega
          · rw [if_neg h3] at hf1
            have h3' : ¬ (p : Int) = (j : Int) := by omega
            have hsame := mix_same n j f (wd xs) hf1.symm
            have HS := Lib.hid hsame
            clear hf1 hsame
            go_wp2
            go_roundw
            case rel => exact ⟨j + 1, by omega, by go_num, by rw [← HS.out]; exact HR.out, HB.out⟩
            case measure => simp [intOf]; omega
    · have e : j = n := by omega
      subst e
      rw [mix_all] at hrow
      have hws2 : Ws (tab j f) := fun i => by
        rw [tab_at]
        split
        · exact HFL.out i
        · omega
      have hgot := refTrim D j cD (tab j f) wr hn hcD hmD (RdW.own hrow hws2)
      have HG := Lib.hid hgot
      have HB := Lib.hid hB
      clear hgot hB hrow
      go_wp2_with fail
      refine HG.out.mono ?_
      intro e w2 hg1
      have hgot := hg1.after HB.out (Nat.le_refl _) (g := fun i => has xs i && decide ((i : Int) < k)) (fun i => by rw [has_tab HFZ.out, HFB.out])
      clear hg1
      obtain ⟨E, n2, c2, zs, rfl, hgot⟩ := hgot
      go_wp2
      go_ret
      exact ⟨E, n2, c2, zs, rfl, hgot⟩
end
end Go.Proofs.Ytcpmcgbjmncalaa.BitsWalks

namespace Go.Proofs.Ytcpmcgbjmncalaa.Paths
open Go.RowKit Go.Proofs.Ytcpmcgbjmncalaa.Ints Go.Proofs.Ytcpmcgbjmncalaa.Mem Go.Proofs.Ytcpmcgbjmncalaa.Src Go.Proofs.Ytcpmcgbjmncalaa.Tree Go.Proofs.Ytcpmcgbjmncalaa.BitsWalks Go.Proofs.Ytcpmcgbjmncalaa.RdW Go.Proofs.Ytcpmcgbjmncalaa.Words

theorem infoWs : (Try.prog.info? 35).map (fun i => (i.zero, i.size, i.bytes)) = some (some (.slice none 0 0), 1, 24) := by kernel_rfl
/-- What a call that hands back sets of words leaves. -/
def GotV (w : World) (k : Nat) (vs : Nat → List Nat) (e : Ending) (w' : World) : Prop := ∃ A c, e = .returned (.slice A k c) ∧ RdV w' A k vs ∧ k ≤ c ∧ c ≤ maxLen ∧ Below w.heap.size w w'
def ptV (g : Nat) : Value := .slice (some ⟨g, 0, none⟩) 1 1
set_option maxHeartbeats 8000000 in
set_option maxRecDepth 100000 in
theorem lawPoints (A : Option Addr) (n c : Nat) (xs : List Nat) (w : World) (h : RdW w A n xs) (hn : n ≤ maxLen) :
    Calls Try.prog 19 #[.slice A n c] w (GotV w (min n 9) (fun i => [wd xs i])) := by
  have q63 : maxLen = 9223372036854775807 := rfl
  obtain ⟨i0, hi, hz0, hz1, hz2⟩ := info_parts infoWs
  have H := Lib.hid h
  have HW := Lib.hid (RdW.ws h)
  have HB0 := Lib.hid (Below.refl w.heap.size w)
  clear h
  go_enter Try.func19, Try.ntmps19
  go_wp2_with fail
  go_loopw [3, 4, 5, 8] (fun v _ _ vi wr => ∃ (i : Nat) (σ : List Nat), vi = .int .i64 (i : Nat) ∧ i ≤ n ∧ i ≤ 9 ∧ σ.length = i ∧ wr.ownsRow w.heap.size 35 1 v i (σ.map ptV) ∧ Hid (∀ q g, σ[q]? = some g → wr.cell? ⟨g, 0, none⟩ = some (.int .u64 ((wd xs q : Nat) : Int)) ∧ w.heap.size ≤ g ∧ v.ownBlock ≠ some g) ∧ Below w.heap.size w wr) (fun _ _ _ vi _ => n - (intOf vi).toNat)
  case atStart => exact ⟨0, [], rfl, Nat.zero_le _, by decide, rfl, World.ownsRow_nil _ _ _ _, Lib.hid (fun q g hq => by simp at hq), HB0.out⟩
  case round =>
    obtain ⟨i, σ, rfl, hin, hi9, hσ, hown, hkeep, hB⟩ := hrel
    have HB := Lib.hid hB
    have HO := Lib.hid hown
    have HDONE := Lib.hid (show ∀ k, k = i → GotV w k (fun i => [wd xs i]) (.returned u3) wr from fun k hk => by
      subst hk
      obtain ⟨Ar, cr, rfl, hcr, hcm, -, -⟩ := own_slice hown
      refine ⟨Ar, cr, rfl, fun h0 => ?_, hcr, hcm, hB⟩
      rcases hown.2 with ⟨e1, h2⟩ | ⟨g, cap, cur, e1, -⟩
      · exact absurd h2 (by omega)
      · injection e1 with e1 _ _
        subst e1
        refine ⟨g, 0, rfl, fun j hj => ?_⟩
        obtain ⟨x, hx⟩ : ∃ x, σ[j]? = some x := ⟨_, List.getElem?_eq_getElem (by omega)⟩
        have hc := hown.cells (g := g) rfl j (ptV x) (by rw [List.getElem?_map, hx]; rfl)
        rw [Addr.add_lit, Nat.zero_add] at hc
        obtain ⟨k1, -, -⟩ := hkeep.out j x hx
        refine ⟨some ⟨x, 0, none⟩, 1, 1, by rw [Nat.zero_add]; exact hc, ?_, Nat.le_refl _, by omega⟩
        refine ⟨rfl, fun q hq => ?_, fun _ => ⟨x, 0, rfl, fun q hq => ?_⟩⟩
        · obtain rfl : q = 0 := by omega
          exact word_wf (HW.out j)
        · obtain rfl : q = 0 := by omega
          exact k1)
    by_cases hlt : i < n
    · obtain ⟨b, off, rfl, hc⟩ := ((H.out).below hB).cell (by omega)
      have x0 := hc i hlt
      by_cases h9 : i = 9
      · have h9' : (((i : Nat) : Int) == 9) = true := by rw [h9]; rfl
        have HD := Lib.hid (HDONE.out (min n 9) (by omega))
        clear hown hB hc hkeep h9 HO
        go_wp2_with fail
        go_ret
        exact HD.out
      · have h9' : (((i : Nat) : Int) == 9) = false := by rw [beq_eq_false_iff_ne]; omega
        have hx64 := HW.out i
        have HK := Lib.hid hkeep.out
        have HX := Lib.hid x0
        have ha1 := hB.alloc hB.size (.cells #[.int .u64 ((wd xs i : Nat) : Int)] 62)
        have ha2 := ha1.alloc ha1.size (.cells #[.slice (some ⟨wr.heap.size, 0, none⟩) 1 1] 35)
        have HA2 := Lib.hid ha2
        have HS1 := Lib.hid ha1.size
        have HS2 := Lib.hid ha2.size
        clear hB hc h9 hown hkeep ha1 ha2 HDONE
        go_wp2_with (at_builtin; refine wpList_append_one rfl (.tmp 15) (.tmp 18) 30 rfl w.heap.size 35 i0 (.slice none 0 0) 24 Try.underlying30 hi hz0 hz1 hz2 rfl (by decide) u3 i _ rfl (HO.out.alloc _) (.slice (some ⟨wr.heap.size, 0, none⟩) 1 1) rfl _ _ rfl (wr.heap.size + 1) (by simp) rfl (by omega) HS1.out ?_; intro v' w' hown' hgr hat)
        go_roundw
        case rel =>
          have hb2 : Below wr.heap.size wr ((wr.alloc (.cells #[.int .u64 ((wd xs i : Nat) : Int)] 62)).alloc (.cells #[.slice (some ⟨wr.heap.size, 0, none⟩) 1 1] 35)) := ((Below.refl _ wr).alloc (Nat.le_refl _) _).alloc (by simp) _
          have hsz2 : ((wr.alloc (.cells #[.int .u64 ((wd xs i : Nat) : Int)] 62)).alloc (.cells #[.slice (some ⟨wr.heap.size, 0, none⟩) 1 1] 35)).heap.size = wr.heap.size + 2 := by simp
          have hnw : ((wr.alloc (.cells #[.int .u64 ((wd xs i : Nat) : Int)] 62)).alloc (.cells #[.slice (some ⟨wr.heap.size, 0, none⟩) 1 1] 35)).cell? ⟨wr.heap.size, 0, none⟩ = some (.int .u64 ((wd xs i : Nat) : Int)) := by
            refine Mem.below_cell ((Below.refl _ _).alloc (Nat.le_refl _) _) ?_
            rw [cell_of_row _ wr.heap.size 0 _ _ (0, 0) (heap_alloc_new wr _)]
            rfl
          rw [hsz2] at hat
          have hown3 : ∀ g, u3.ownBlock = some g → g < wr.heap.size := fun g hg => (HO.out.lt g hg).2
          refine ⟨i + 1, σ ++ [wr.heap.size], by simp, by omega, by have h9'' : i ≠ 9 := fun e => (beq_eq_false_iff_ne.1 h9') (by omega); omega, by rw [List.length_append, hσ]; rfl, by rw [List.map_append]; exact hown', Lib.hid (fun q g hq => ?_), HA2.out.grown hgr HS2.out (fun k hk => (HO.out.lt k hk).1)⟩
          by_cases hqi : q < i
          · rw [List.getElem?_append_left (by omega)] at hq
            obtain ⟨k1, k2, k3⟩ := HK.out q g hq
            have hgl := World.block_lt_of_cell? wr _ k1
            refine ⟨hgr.cell (Mem.below_cell hb2 k1) (fun e => k3 e.symm), k2, ?_⟩
            rcases hat with e | e
            · rw [e]; exact k3
            · rw [e]; intro e2; injection e2 with e2; have : g < wr.heap.size := hgl; omega
          · rw [List.getElem?_append_right (by omega), hσ] at hq
            have hq1 : q = i := by
              rcases Nat.lt_or_ge (q - i) 1 with h1 | h1
              · omega
              · rw [List.getElem?_eq_none (by simpa using h1)] at hq; cases hq
            subst hq1
            rw [Nat.sub_self, List.getElem?_cons_zero] at hq
            injection hq with hq
            subst hq
            refine ⟨hgr.cell hnw (fun e => by have e3 := hown3 wr.heap.size e.symm; omega), HB.out.size, ?_⟩
            rcases hat with e | e
            · rw [e]; intro e2; have := hown3 _ e2; omega
            · rw [e]; intro e2; injection e2 with e2; omega
        case measure => (show n - (i + 1) < n - i; omega)
    · have HD := Lib.hid (HDONE.out (min n 9) (by omega))
      clear hown hB hkeep
      go_wp2_with fail
      go_ret
      exact HD.out
end Go.Proofs.Ytcpmcgbjmncalaa.Paths
