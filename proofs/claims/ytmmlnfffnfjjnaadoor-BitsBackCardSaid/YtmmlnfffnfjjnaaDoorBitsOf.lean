/-
  The walks of Of, the program's and the reference's. By an AI agent.
-/
import Derived.Test.YtmmlnfffnfjjnaaDoorBitsMake3
namespace Go.Proofs.YtmmlnfffnfjjnaaDoor.BitsWalks
open Go.RowKit Go.Proofs.YtmmlnfffnfjjnaaDoor.Ints Go.Proofs.YtmmlnfffnfjjnaaDoor.Words Go.Proofs.YtmmlnfffnfjjnaaDoor.RdW

/-- May z be in a set? -/
def may (z : Int) : Prop := 0 ≤ z ∧ z ≤ 4095
instance (z : Int) : Decidable (may z) := by unfold may; exact inferInstance
/-- One number more. -/
def put (L : List Nat) (z : Int) : List Nat := if may z then L.set (z.toNat / 64) (wd L (z.toNat / 64) ||| 2 ^ (z.toNat % 64)) else L
def puts (L : List Nat) (zs : List Int) : List Nat := zs.foldl put L
theorem puts_snoc (L : List Nat) (zs : List Int) (z : Int) : puts L (zs ++ [z]) = put (puts L zs) z := by simp [puts, List.foldl_append]
theorem put_len (L : List Nat) (z : Int) : (put L z).length = L.length := by
  unfold put
  split <;> simp
theorem puts_len : ∀ (zs : List Int) (L : List Nat), (puts L zs).length = L.length
  | [], _ => rfl
  | z :: r, L => by
    show (puts (put L z) r).length = _
    rw [puts_len r, put_len]
theorem pow_bit (b i : Nat) : (2 ^ b).testBit i = decide (b = i) := Nat.testBit_two_pow
theorem pow_lt {b : Nat} (h : b < 64) : 2 ^ b < 18446744073709551616 := Nat.pow_lt_pow_right (a := 2) (m := b) (n := 64) (by omega) h
theorem put_ws {L : List Nat} {z : Int} (h : Ws L) : Ws (put L z) := by
  unfold put
  split
  · intro j
    rw [List.getElem?_set]
    split
    · split
      · exact or_lt (h _) (pow_lt (by omega))
      · simp
    · exact h j
  · exact h
theorem puts_ws : ∀ (zs : List Int) {L : List Nat}, Ws L → Ws (puts L zs)
  | [], _, h => h
  | _ :: r, _, h => puts_ws r (put_ws h)
theorem put_has {L : List Nat} {z : Int} (hz : may z → z.toNat / 64 < L.length) (i : Nat) : has (put L z) i = (has L i || decide (may z ∧ (i : Int) = z)) := by
  unfold put
  by_cases hm : may z
  · have hlt := hz hm
    obtain ⟨hm0, hm1⟩ := hm
    rw [if_pos ⟨hm0, hm1⟩]
    unfold has
    rw [List.getElem?_set]
    by_cases hq : z.toNat / 64 = i / 64
    · rw [if_pos hq, if_pos hlt, Option.getD_some, Nat.testBit_or, pow_bit]
      unfold wd
      rw [hq]
      congr 1
      congr 1
      apply propext
      constructor
      · intro h; exact ⟨⟨hm0, hm1⟩, by omega⟩
      · rintro ⟨_, h⟩; omega
    · rw [if_neg hq]
      have : decide (may z ∧ (i : Int) = z) = false := by
        rw [decide_eq_false_iff_not]
        rintro ⟨_, h⟩
        exact hq (by omega)
      rw [this, Bool.or_false]
  · rw [if_neg hm]
    have : decide (may z ∧ (i : Int) = z) = false := by
      rw [decide_eq_false_iff_not]
      rintro ⟨h, _⟩
      exact hm h
    rw [this, Bool.or_false]
/-- Is i one of the numbers that may be in a set? -/
def ofI (zs : List Int) (i : Nat) : Bool := decide (i ≤ 4095 ∧ (i : Int) ∈ zs)
theorem puts_has : ∀ (zs : List Int) {L : List Nat}, (∀ z ∈ zs, may z → z.toNat / 64 < L.length) → ∀ i, has (puts L zs) i = (has L i || ofI zs i)
  | [], _, _, i => by simp [puts, ofI]
  | z :: r, L, h, i => by
    show has (puts (put L z) r) i = _
    rw [puts_has r (fun y hy hm => by rw [put_len]; exact h y (by simp [hy]) hm) i, put_has (h z (by simp)) i, Bool.or_assoc]
    congr 1
    unfold ofI may
    rw [Bool.eq_iff_iff, Bool.or_eq_true, decide_eq_true_iff, decide_eq_true_iff, decide_eq_true_iff, List.mem_cons]
    constructor
    · rintro (⟨h1, h2⟩ | ⟨h1, h2⟩)
      · exact ⟨by omega, .inl h2⟩
      · exact ⟨h1, .inr h2⟩
    · rintro ⟨h1, h2 | h2⟩
      · exact .inl ⟨by omega, h2⟩
      · exact .inr ⟨h1, h2⟩
theorem has_zeros (K i : Nat) : has (List.replicate K 0) i = false := by
  unfold has
  rw [List.getElem?_replicate]
  split <;> simp
theorem wants_ge : ∀ (zs : List Int) (c : Nat), c ≤ zs.foldl (fun c z => if 0 ≤ z ∧ z ≤ 4095 then max c (z.toNat / 64 + 1) else c) c
  | [], c => Nat.le_refl _
  | z :: r, c => by
    rw [List.foldl_cons]
    refine Nat.le_trans ?_ (wants_ge r _)
    split
    · omega
    · omega
theorem wants_all : ∀ (zs : List Int) (c : Nat), ∀ z ∈ zs, may z → z.toNat / 64 + 1 ≤ zs.foldl (fun c z => if 0 ≤ z ∧ z ≤ 4095 then max c (z.toNat / 64 + 1) else c) c
  | y :: r, c, z, hz, hm => by
    rw [List.foldl_cons]
    rcases List.mem_cons.1 hz with rfl | h
    · refine Nat.le_trans ?_ (wants_ge r _)
      unfold may at hm
      rw [if_pos hm]
      omega
    · exact wants_all r _ z h hm
theorem wants_one : ∀ (zs : List Int) (c : Nat), zs.foldl (fun c z => if 0 ≤ z ∧ z ≤ 4095 then max c (z.toNat / 64 + 1) else c) c = c ∨ ∃ z ∈ zs, may z ∧ z.toNat / 64 + 1 = zs.foldl (fun c z => if 0 ≤ z ∧ z ≤ 4095 then max c (z.toNat / 64 + 1) else c) c
  | [], c => .inl rfl
  | y :: r, c => by
    rw [List.foldl_cons]
    rcases wants_one r (if 0 ≤ y ∧ y ≤ 4095 then max c (y.toNat / 64 + 1) else c) with h | ⟨z, h1, h2, h3⟩
    · rw [h]
      by_cases hm : 0 ≤ y ∧ y ≤ 4095
      · rw [if_pos hm]
        rcases Nat.le_total c (y.toNat / 64 + 1) with h4 | h4
        · exact .inr ⟨y, by simp, hm, by omega⟩
        · exact .inl (by omega)
      · rw [if_neg hm]; exact .inl rfl
    · exact .inr ⟨z, by simp [h1], h2, h3⟩
theorem of_set (zs : List Int) : IsSet (puts (List.replicate (wants zs) 0) zs) (ofI zs) := by
  have hall : ∀ z ∈ zs, may z → z.toNat / 64 < (List.replicate (wants zs) (0 : Nat)).length := fun z hz hm => by
    rw [List.length_replicate]
    exact wants_all zs 0 z hz hm
  have hh : ∀ i, has (puts (List.replicate (wants zs) 0) zs) i = ofI zs i := fun i => by rw [puts_has zs hall, has_zeros, Bool.false_or]
  refine ⟨puts_ws zs (fun j => by rw [List.getElem?_replicate]; split <;> simp), fun h0 => ?_, hh⟩
  rw [puts_len, List.length_replicate] at h0 ⊢
  rcases wants_one zs 0 with h | ⟨z, h1, h2, h3⟩
  · have : wants zs = 0 := h
    omega
  · have h4 := hh z.toNat
    have h5 : ofI zs z.toNat = true := by
      unfold ofI
      rw [decide_eq_true_iff]
      unfold may at h2
      exact ⟨by omega, by rwa [Int.toNat_of_nonneg h2.1]⟩
    rw [h5] at h4
    intro he
    unfold has at h4
    have h6 : z.toNat / 64 = wants zs - 1 := by
      have : z.toNat / 64 + 1 = wants zs := h3
      omega
    rw [h6, he] at h4
    simp at h4

theorem or_bit (x b : Nat) (hx : x < 18446744073709551616) (hb : b < 64) : bits .or .u64 (x : Int) (IntKind.u64.wrap ((2 : Int) ^ b)) = ((x ||| 2 ^ b : Nat) : Int) := by
  have h1 := pow_lt hb
  have h0 := Nat.two_pow_pos b
  have e1 : (2 : Int) ^ b = ((2 ^ b : Nat) : Int) := by rw [Int.natCast_pow]; rfl
  have e2 : IntKind.u64.wrap ((2 : Int) ^ b) = ((2 ^ b : Nat) : Int) := by
    rw [e1, IntKind.wrap_u64]
    omega
  rw [e2, bits_or_u64_nat x (2 ^ b) hx h1]
theorem put_at (L : List Nat) (m : Nat) (h : m ≤ 4095) : put L (m : Int) = L.set (m / 64) (wd L (m / 64) ||| 2 ^ (m % 64)) := by
  unfold put
  rw [if_pos (show may (m : Int) from ⟨by omega, by omega⟩)]
  rfl
theorem put_out (L : List Nat) (z : Int) (h : ¬ (0 ≤ z ∧ z ≤ 4095)) : put L z = L := by
  unfold put
  rw [if_neg (show ¬ may z from h)]

section
variable (A : Option Addr) (n c : Nat) (zs : List Int) (w : World)

set_option maxHeartbeats 1000000 in
theorem of_ (hn : n ≤ maxLen) (h : Rd .i64 w A n zs) :
    Calls Tryd.prog 9 #[.slice A n c] w (GotSet w 64 (ofI zs)) := by
  obtain ⟨i0, hi, hz0, hz1, hz2⟩ := info_parts infoW
  have hset := of_set zs
  have hwf := wordsFor A n c zs w hn h
  have hall : ∀ z ∈ zs, may z → z.toNat / 64 < wants zs := fun z hz hm => wants_all zs 0 z hz hm
  unfold maxLen at hn
  have HL := Lib.hid h.len
  go_enter Tryd.func9, Tryd.ntmps9
  go_wp2_with fail
  refine hwf.mono ?_
  rintro e w' ⟨rfl, hK64, rfl⟩
  obtain ⟨K, hK⟩ : ∃ K, wants zs = K := ⟨_, rfl⟩
  rw [hK] at hset hall hK64 ⊢
  have b1 : i0.bytes * K ≤ 281474976710656 := by rw [hz2]; omega
  have b2 : K ≤ maxLen := by unfold maxLen; omega
  have HS := Lib.hid hset
  have HA := Lib.hid hall
  clear hset hall hwf hK
  go_wp2_with (at_make; refine wpList_make_full _ rfl _ _ 23 rfl w.heap.size 39 i0 (.int .u64 0) 1 Tryd.underlying23 hi hz0 hz1 .i64 .i64 _ _ K rfl rfl (by omega) (by omega) b1 b2 (Nat.le_refl _) ?_; intro w1 hmade hgr1; rw [made_words] at hmade)
  have hmade' : Row w1 w.heap.size w.heap.size K K (puts (List.replicate K 0) (zs.take 0)) := hmade
  have hB1 : Below w.heap.size w w1 := (Below.refl _ _).grown hgr1 (Nat.le_refl _) (by simp)
  clear hmade hgr1
  go_loopw [11] (fun i wr => ∃ k : Nat, k ≤ n ∧ i = .int .i64 k ∧ Row wr w.heap.size w.heap.size K K (puts (List.replicate K 0) (zs.take k)) ∧ Below w.heap.size w wr) (fun i _ => n - (intOf i).toNat)
  case atStart => exact ⟨0, Nat.zero_le _, rfl, hmade', hB1⟩
  case round =>
    obtain ⟨k, hk, rfl, hrow, hB⟩ := hrel
    clear hmade' hB1
    have hA := h.below hB
    by_cases h0 : k < n
    · have hk0 : (k : Int) < (n : Int) := by omega
      obtain ⟨b, off, e1, hc⟩ := hA.cell (by omega)
      subst e1
      have hc1 := hc k h0
      have HT := Lib.hid (take_snoc zs k (by rw [HL.out]; exact h0))
      have hzm : zs[k]?.getD 0 ∈ zs := by
        have : k < zs.length := by rw [HL.out]; exact h0
        rw [List.getElem?_eq_getElem this]
        exact List.getElem_mem this
      have HM := Lib.hid (HA.out _ hzm)
      obtain ⟨z, hz⟩ : ∃ z, zs[k]?.getD 0 = z := ⟨_, rfl⟩
      rw [hz] at hc1 HM
      have HZ := Lib.hid hz
      have hws : Ws (puts (List.replicate K 0) (zs.take k)) := puts_ws _ (fun j => by rw [List.getElem?_replicate]; split <;> simp)
      obtain ⟨L, hL⟩ : ∃ L, puts (List.replicate K 0) (zs.take k) = L := ⟨_, rfl⟩
      have hnext : puts (List.replicate K 0) (zs.take (k + 1)) = put L z := by rw [HT.out, puts_snoc, hL, hz]
      rw [hL] at hrow hws
      have HN := Lib.hid hnext
      have HR := Lib.hid hrow
      have HB := Lib.hid hB
      clear hc hzm hz hnext hB hA hL
      by_cases hm : 0 ≤ z ∧ z ≤ 4095
      · have hmi := mayBeIn wr z
        have hq : decide (0 ≤ z ∧ z ≤ 4095) = true := by simp [hm]
        rw [hq] at hmi
        obtain ⟨x, rfl⟩ := Int.eq_ofNat_of_zero_le hm.1
        have hpl := HM.out hm
        simp only [Int.toNat_natCast] at hpl
        have hp := put_at L x (by omega)
        obtain ⟨p, hpe⟩ : ∃ p, x / 64 = p := ⟨_, rfl⟩
        obtain ⟨t, hte⟩ : ∃ t, x % 64 = t := ⟨_, rfl⟩
        rw [hpe, hte] at hp
        rw [hpe] at hpl
        have e2 : (x : Int) / 64 = (p : Int) := by omega
        have e3 : (x : Int) % 64 = (t : Int) := by omega
        have e4 : (t : Int) ≤ 64 := by omega
        have hxb : (x : Int) ≤ 4095 := by omega
        have hpK : (p : Int) < (K : Int) := by omega
        have hc2 := hrow.cell hpl
        have hc3 := hrow.frozenAt p
        have e5 := or_bit (wd L p) t (hws p) (by omega)
        have HP := Lib.hid hp
        clear hm hq hp hpe hte hrow hws
        go_wp2_with fail
        refine hmi.mono ?_
        rintro e w' ⟨rfl, rfl⟩
        clear hmi
        go_wp2
        go_region
        all_goals
          go_wp2
          go_roundw
          case rel => exact ⟨k + 1, by omega, by go_num, by rw [HN.out, HP.out]; exact HR.out.set p _, (HB.out.setCell (Nat.le_refl _) _).drew⟩
          case measure => simp [intOf]; omega
      · have hmi := mayBeIn wr z
        have hq : decide (0 ≤ z ∧ z ≤ 4095) = false := by simp; omega
        rw [hq] at hmi
        have HP := Lib.hid (put_out L z hm)
        clear hm hq hrow hws
        go_wp2_with fail
        refine hmi.mono ?_
        rintro e w' ⟨rfl, rfl⟩
        clear hmi
        go_wp2
        go_roundw
        case rel => exact ⟨k + 1, by omega, by go_num, by rw [HN.out, HP.out]; exact HR.out, HB.out⟩
        case measure => simp [intOf]; omega
    · have e : k = n := by omega
      subst e
      have HR := Lib.hid hrow
      have HB := Lib.hid hB
      clear hrow hB hA
      go_wp2
      go_ret
      have hrow := HR.out
      rw [List.take_of_length_le (by rw [HL.out]; omega)] at hrow
      exact GotSet.all hrow hK64 HS.out HB.out

set_option maxHeartbeats 1000000 in
theorem refOf (hn : n ≤ maxLen) (h : Rd .i64 w A n zs) :
    Calls Tryd.prog 11 #[.slice A n c] w (GotSet w 64 (ofI zs)) := by
  obtain ⟨i0, hi, hz0, hz1, hz2⟩ := info_parts infoW
  have hall : ∀ z ∈ zs, may z → z.toNat / 64 < 64 := fun z hz hm => by unfold may at hm; omega
  unfold maxLen at hn
  have HL := Lib.hid h.len
  have b1 : i0.bytes * 64 ≤ 281474976710656 := by rw [hz2]; omega
  have b2 : 64 ≤ maxLen := by decide
  have HA := Lib.hid hall
  clear hall
  go_enter Tryd.func11, Tryd.ntmps11
  go_wp2_with (at_make; refine wpList_make_full _ rfl _ _ 23 rfl w.heap.size 39 i0 (.int .u64 0) 1 Tryd.underlying23 hi hz0 hz1 .i64 .i64 _ _ 64 rfl rfl (by omega) (by omega) b1 b2 (Nat.le_refl _) ?_; intro w1 hmade hgr1; rw [made_words] at hmade)
  have hmade' : Row w1 w.heap.size w.heap.size 64 64 (puts (List.replicate 64 0) (zs.take 0)) := hmade
  have hB1 : Below w.heap.size w w1 := (Below.refl _ _).grown hgr1 (Nat.le_refl _) (by simp)
  clear hmade hgr1
  go_loopw [9] (fun i wr => ∃ k : Nat, k ≤ n ∧ i = .int .i64 k ∧ Row wr w.heap.size w.heap.size 64 64 (puts (List.replicate 64 0) (zs.take k)) ∧ Below w.heap.size w wr) (fun i _ => n - (intOf i).toNat)
  case atStart => exact ⟨0, Nat.zero_le _, rfl, hmade', hB1⟩
  case round =>
    obtain ⟨k, hk, rfl, hrow, hB⟩ := hrel
    clear hmade' hB1
    have hA := h.below hB
    have hws : Ws (puts (List.replicate 64 0) (zs.take k)) := puts_ws _ (fun j => by rw [List.getElem?_replicate]; split <;> simp)
    by_cases h0 : k < n
    · have hk0 : (k : Int) < (n : Int) := by omega
      obtain ⟨b, off, e1, hc⟩ := hA.cell (by omega)
      subst e1
      have hc1 := hc k h0
      have HT := Lib.hid (take_snoc zs k (by rw [HL.out]; exact h0))
      have hzm : zs[k]?.getD 0 ∈ zs := by
        have : k < zs.length := by rw [HL.out]; exact h0
        rw [List.getElem?_eq_getElem this]
        exact List.getElem_mem this
      have HM := Lib.hid (HA.out _ hzm)
      obtain ⟨z, hz⟩ : ∃ z, zs[k]?.getD 0 = z := ⟨_, rfl⟩
      rw [hz] at hc1 HM
      obtain ⟨L, hL⟩ : ∃ L, puts (List.replicate 64 0) (zs.take k) = L := ⟨_, rfl⟩
      have hnext : puts (List.replicate 64 0) (zs.take (k + 1)) = put L z := by rw [HT.out, puts_snoc, hL, hz]
      rw [hL] at hrow hws
      have HN := Lib.hid hnext
      have HR := Lib.hid hrow
      have HB := Lib.hid hB
      clear hc hzm hz hnext hB hA hL
      by_cases hm : 0 ≤ z ∧ z ≤ 4095
      · obtain ⟨x, rfl⟩ := Int.eq_ofNat_of_zero_le hm.1
        have hpl := HM.out hm
        simp only [Int.toNat_natCast] at hpl
        have hp := put_at L x (by omega)
        obtain ⟨p, hpe⟩ : ∃ p, x / 64 = p := ⟨_, rfl⟩
        obtain ⟨t, hte⟩ : ∃ t, x % 64 = t := ⟨_, rfl⟩
        rw [hpe, hte] at hp
        rw [hpe] at hpl
        have e2 : (x : Int) / 64 = (p : Int) := by omega
        have e3 : (x : Int) % 64 = (t : Int) := by omega
        have e4 : (t : Int) ≤ 64 := by omega
        have e6 : IntKind.u64.wrap (t : Int) = (t : Int) := by rw [IntKind.wrap_u64]; omega
        have hx0 : (0 : Int) ≤ (x : Int) := by omega
        have hxb : (x : Int) ≤ 4095 := by omega
        have hpK : (p : Int) < 64 := by omega
        have hc2 := hrow.cell hpl
        have hc3 := hrow.frozenAt p
        have e5 := or_bit (wd L p) t (hws p) (by omega)
        have HP := Lib.hid hp
        clear hm hp hpe hte hrow hws
        go_wp2
        go_roundw
        case rel => exact ⟨k + 1, by omega, by go_num, by rw [HN.out, HP.out]; exact HR.out.set p _, HB.out.setCell (Nat.le_refl _) _⟩
        case measure => simp [intOf]; omega
      · have HP := Lib.hid (put_out L z hm)
        have hcase : z < 0 ∨ (0 ≤ z ∧ 4095 < z) := by omega
        clear hm hrow hws
        rcases hcase with hc5 | ⟨hc5, hc6⟩
        · go_wp2
          go_roundw
          case rel => exact ⟨k + 1, by omega, by go_num, by rw [HN.out, HP.out]; exact HR.out, HB.out⟩
          case measure => simp [intOf]; omega
        · go_wp2
          go_roundw
          case rel => exact ⟨k + 1, by omega, by go_num, by rw [HN.out, HP.out]; exact HR.out, HB.out⟩
          case measure => simp [intOf]; omega
    · have e : k = n := by omega
      subst e
      rw [List.take_of_length_le (by rw [HL.out]; omega)] at hrow hws
      have hgot := refTrim _ 64 64 _ wr (by omega) (by omega) (by decide) (hrow.reads hws)
      have HG := Lib.hid hgot
      have HB := Lib.hid hB
      clear hgot hrow hB hA hws
      go_wp2_with fail
      refine HG.out.mono ?_
      intro e w2 hg1
      have hgot := hg1.after HB.out (Nat.le_refl _) (g := ofI zs) (fun i => by rw [puts_has zs (fun z hz hm => by rw [List.length_replicate]; exact HA.out z hz hm), has_zeros, Bool.false_or])
      clear hg1
      obtain ⟨E, n2, c2, us, rfl, hgot⟩ := hgot
      go_wp2
      go_ret
      exact ⟨E, n2, c2, us, rfl, hgot⟩
end
end Go.Proofs.YtmmlnfffnfjjnaaDoor.BitsWalks
