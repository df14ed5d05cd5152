/-
  The walks of List, the program's and the reference's; the table of math/bits. By an AI agent.
  The reference's Trim, Of and List: what they hand back is a row of their own. By an AI agent. (Written by wip/tools/genowned14.py.)
  The walk of package bits: Cut. By an AI agent.
-/
import Derived.Test.YtcpmcgbjmncalaaGPathsUnion24
import Derived.Lib.TrailingZeros
namespace Go.Proofs.Ytcpmcgbjmncalaa.BitsWalks
open Go.RowKit Go.Proofs.Ytcpmcgbjmncalaa.Ints Go.Proofs.Ytcpmcgbjmncalaa.Words Go.Proofs.Ytcpmcgbjmncalaa.RdW

/-- The table of math/bits, in its variable. -/
def Tab (w : World) : Prop := ∀ j, j < 64 → w.cell? ⟨0, j, none⟩ = some (.int .u8 (Lib.deBruijn64tab.getD j 0 : Nat))
theorem Tab.later {w w' : World} (h : Tab w) (hb : Below w.heap.size w w') : Tab w' := fun j hj => (hb.cell (World.block_lt_of_cell? w _ (h j hj))).trans (h j hj)

theorem infoI : (Try.prog.info? 3).map (fun i => (i.zero, i.size, i.bytes)) = some (some (.int .i64 0), 1, 8) := by kernel_rfl

theorem int_wf {x : Nat} (h : x < 9223372036854775808) : (Lit.int .i64 (x : Int)).wf = true := by
  simp [Lit.wf, IntKind.min, IntKind.max, IntKind.signed, IntKind.bits]
  omega
theorem elems_small {xs : List Nat} (h : xs.length ≤ 1048576) : ∀ z ∈ ints (elems 0 xs), (Lit.int .i64 z).wf = true := by
  intro z hz
  obtain ⟨x, hx, rfl⟩ := List.mem_map.1 hz
  have := has_lt ((has_elems xs x).1 hx)
  exact int_wf (by omega)

section
variable (A : Option Addr) (n c : Nat) (xs : List Nat) (w : World)

end
end Go.Proofs.Ytcpmcgbjmncalaa.BitsWalks

namespace Go.Proofs.Ytcpmcgbjmncalaa.BitsWalks
open Go.RowKit Go.Proofs.Ytcpmcgbjmncalaa.Ints Go.Proofs.Ytcpmcgbjmncalaa.Words Go.Proofs.Ytcpmcgbjmncalaa.RdW

def GotSetO (w : World) (L : Nat) (f : Nat → Bool) (e : Ending) (w' : World) : Prop :=
  ∃ (v : Value) (n : Nat) (zs : List Nat), e = .returned v ∧ IsSet zs f ∧ n ≤ L ∧ w'.ownsRow w.heap.size 62 1 v n ((ints zs).map (Value.int .u64)) ∧ Below w.heap.size w w'
theorem own_low {w : World} {lo lo' : Nat} {e : TypeId} {k n : Nat} {v : Value} {xs : List Value} (h : w.ownsRow lo e k v n xs) (hl : lo' ≤ lo) : w.ownsRow lo' e k v n xs := by
  refine ⟨h.1, ?_⟩
  rcases h.2 with h2 | ⟨g, cap, cur, e1, h4, h5, h6⟩
  · exact .inl h2
  · exact .inr ⟨g, cap, cur, e1, Nat.le_trans hl h4, h5, h6⟩
theorem GotSetO.after {w w1 w2 : World} {L L' : Nat} {f g : Nat → Bool} {e : Ending} (h : GotSetO w1 L f e w2) (hb : Below w.heap.size w w1) (hL : L ≤ L') (hfg : ∀ k, f k = g k) : GotSetO w L' g e w2 := by
  obtain ⟨v, n, zs, h1, h2, h3, h4, h5⟩ := h
  exact ⟨v, n, zs, h1, h2.congr hfg, Nat.le_trans h3 hL, own_low h4 hb.size, hb.trans (h5.mono hb.size)⟩
theorem GotSetO.own {w w1 : World} {L k : Nat} {f : Nat → Bool} {v : Value} {zs : List Nat} (h : w1.ownsRow w.heap.size 62 1 v k ((ints zs).map (Value.int .u64))) (hs : IsSet zs f) (hL : k ≤ L) (hb : Below w.heap.size w w1) : GotSetO w L f (.returned v) w1 :=
  ⟨v, k, zs, rfl, hs, hL, h, hb⟩
def GotListO (w : World) (us : List Nat) (e : Ending) (w' : World) : Prop :=
  ∃ v, e = .returned v ∧ w'.ownsRow w.heap.size 3 1 v us.length ((ints us).map (Value.int .i64)) ∧ Below w.heap.size w w'
section
variable (A B : Option Addr) (n c m d : Nat) (xs ys : List Nat) (w : World)
set_option maxRecDepth 100000 in
set_option maxHeartbeats 400000 in
theorem refTrimO (hn : n ≤ 1048576) (hnc : n ≤ c) (_hc : c ≤ maxLen) (h : RdW w A n xs) :
    Calls Try.prog 57 #[.slice A n c] w (GotSetO w n (has xs)) := by
  obtain ⟨i0, hi, hz0, hz1, hz2⟩ := info_parts infoW
  have HC := Lib.hid h.cell
  have HL := Lib.hid h.len
  go_enter Try.func57, Try.ntmps57
  go_wp2
  go_loop [3] (fun i => ∃ k : Nat, k ≤ n ∧ i = .int .i64 k ∧ ∀ j : Nat, k ≤ j → xs[j]?.getD 0 = 0) (fun i => (intOf i).toNat)
  case atStart => exact ⟨n, Nat.le_refl _, rfl, fun j hj => out_getD (by rw [HL.out]; exact hj)⟩
  case round =>
    obtain ⟨k, hk, rfl, hz⟩ := hrel
    have HZ := Lib.hid hz
    clear hz
    by_cases hgo : 0 < k ∧ wd xs (k - 1) = 0
    · obtain ⟨q, rfl⟩ : ∃ q, k = q + 1 := ⟨k - 1, by omega⟩
      obtain ⟨b, off, rfl, hc'⟩ := HC.out (by omega)
      have hc1 := hc' q (by omega)
      have hx : wd xs q = 0 := hgo.2
      have hqn : (q : Int) < (n : Int) := by omega
      clear hc' hgo
      go_wp2
      go_round
      case rel =>
        refine ⟨q, by omega, rfl, fun j hj => ?_⟩
        by_cases e : j = q
        · subst e; exact hx
        · exact HZ.out j (by omega)
      case measure => simp [intOf]
    · have HT := Lib.hid (show Used xs k from ⟨by rw [HL.out]; exact hk, HZ.out, fun h0 e => hgo ⟨h0, e⟩⟩)
      have hsub := h.take hk
      have hkc : (k : Int) ≤ (c : Int) := by omega
      have hk0' : (0 : Int) ≤ (k : Int) := by omega
      have q1 : 0 + k ≤ maxLen := by unfold maxLen; omega
      have q2 : (0 + k) * 8 ≤ 140737488355328 := by omega
      have q3 : w.heap.size ≤ (w.alloc (.cells #[] 62)).heap.size := by simp
      clear hgo
      by_cases h0 : 0 < k
      case' pos =>
        obtain ⟨p, hp⟩ : ∃ p, k - 1 = p := ⟨_, rfl⟩
        obtain ⟨b, off, rfl, hc'⟩ := HC.out (by omega)
        have hc1 := hc' p (by omega)
        have hx : ¬ wd xs p = 0 := by rw [← hp]; exact HT.out.2.2 h0
        have hqn : (p : Int) < (n : Int) := by omega
        have ek : (k : Int) - 1 = (p : Int) := by omega
        clear hc' hp
      case' neg =>
        have hk0 : ¬ (0 : Int) < (k : Int) := by omega
      all_goals
        go_wp2_with (at_builtin; refine wpList_append_ints rfl _ _ 35 rfl .u64 w.heap.size 62 i0 8 Try.underlying35 hi hz0 hz1 hz2 (.slice (some ⟨w.heap.size, 0, none⟩) 0 0) 0 [] rfl (World.ownsRow_made w #[] 0 (Nat.le_refl _) (by decide) rfl) _ _ _ (ints (xs.take k)) rfl (Rd.alloc hsub _) q1 q2 q3 ?_; intro v' w1 hown hgr; simp only [Nat.zero_add, List.nil_append] at hown)
        go_ret
        exact GotSetO.own hown (HT.out.set h.ws (fun _ => rfl)) hk (((Below.refl _ _).alloc (Nat.le_refl _) _).grown hgr (by simp) (by rintro k hk; simp [Value.ownBlock] at hk; omega))

end
section
variable (A : Option Addr) (n c : Nat) (xs : List Nat) (w : World)
set_option maxRecDepth 100000 in
set_option maxHeartbeats 1000000 in
theorem refListO (hn : n ≤ 1048576) (h : RdW w A n xs) :
    Calls Try.prog 36 #[.slice A n c] w (GotListO w (elems 0 xs)) := by
  obtain ⟨i0, hi, hz0, hz1, hz2⟩ := info_parts infoI
  have hws := h.ws
  have HL := Lib.hid h.len
  go_enter Try.func36, Try.ntmps36
  go_wp2
  go_loopw [3, 8] (fun v i wr => ∃ k : Nat, k ≤ n ∧ i = .int .i64 k ∧ wr.ownsRow w.heap.size 3 1 v (elems 0 (xs.take k)).length ((ints (elems 0 (xs.take k))).map (Value.int .i64)) ∧ Below w.heap.size w wr) (fun _ i _ => n - (intOf i).toNat)
  case atStart => exact ⟨0, Nat.zero_le _, rfl, World.ownsRow_nil _ _ _ _, Below.refl _ _⟩
  case round =>
    obtain ⟨k, hk, rfl, hown, hB⟩ := hrel
    by_cases h0 : k < n
    · have hk0 : (k : Int) < (n : Int) := by omega
      have HE := Lib.hid (elems_snoc xs k (by rw [HL.out]; exact h0))
      have hx := hws k
      obtain ⟨x, hxe⟩ : ∃ x, wd xs k = x := ⟨_, rfl⟩
      have HX := Lib.hid hxe
      have hx' : x < 18446744073709551616 := by rw [← hxe]; exact hx
      clear hx hxe
      have HB := Lib.hid hB
      obtain ⟨us, hus⟩ : ∃ us, elems 0 (xs.take k) = us := ⟨_, rfl⟩
      have hlus : us.length ≤ 64 * k := by
        rw [← hus, elems_len]
        exact Nat.le_trans (total_le _) (by rw [List.length_take]; omega)
      rw [hus] at hown
      have HU := Lib.hid hus
      have HO := Lib.hid hown
      clear hus hB hown
      go_wp2
      go_loopw [3, 11] (fun v i wv => ∃ (q : Nat) (d : List Nat), q ≤ 64 ∧ i = .int .i64 q ∧ (List.range q).filter x.testBit = d ∧ d.length ≤ q ∧
          wv.ownsRow w.heap.size 3 1 v (us.length + d.length) ((ints (us ++ d.map (64 * k + ·))).map (Value.int .i64)) ∧ Below w.heap.size w wv) (fun _ i _ => 64 - (intOf i).toNat)
      case atStart => exact ⟨0, [], Nat.zero_le _, rfl, rfl, Nat.le_refl _, by simpa using HO.out, HB.out⟩
      case round =>
        obtain ⟨q, d, hq, rfl, hd, hdq, hown2, hB2⟩ := hrel
        have HD := Lib.hid hd
        have HO2 := Lib.hid hown2
        have HB2 := Lib.hid hB2
        by_cases hq1 : q < 64
        · obtain ⟨b, off, e1, hc⟩ := (h.below hB2).cell (by omega)
          subst e1
          have hc1 := hc k h0
          have hxk : wd xs k = x := HX.out
          rw [hxk] at hc1
          have hq2 : (q : Int) < 64 := by omega
          have e2 : IntKind.u64.wrap (q : Int) = (q : Int) := by rw [IntKind.wrap_u64]; omega
          have e3 : (q : Int) ≤ 64 := by omega
          have hkb : (k : Int) ≤ 1048576 := by omega
          have hbit := bit_one x q hx'
          have hsn : (List.range (q + 1)).filter x.testBit = d ++ (if x.testBit q then [q] else []) := by
            rw [List.range_succ, List.filter_append, hd, List.filter_cons, List.filter_nil]
          have HS := Lib.hid hsn
          have q1 : us.length + d.length + 1 ≤ maxLen := by unfold maxLen; omega
          have q2 : (us.length + d.length + 1) * 8 ≤ 140737488355328 := by omega
          have q3 : ∀ o, w.heap.size ≤ (wr.alloc o).heap.size := fun o => by have := hB2.size; simp; omega
          have hz : ∀ z ∈ [64 * (k : Int) + (q : Int)], (Lit.int .i64 z).wf = true := by
            intro z hz
            rw [List.mem_singleton] at hz
            have := int_wf (x := 64 * k + q) (by omega)
            rw [hz]
            rwa [Int.natCast_add, Int.natCast_mul] at this
          have HZ := Lib.hid hz
          clear hd hown2 hB2 hxk hsn hc hz
          cases ht : x.testBit q
          · rw [ht] at hbit
            have HT := Lib.hid ht
            clear ht
            go_wp2
            go_roundw
            case rel =>
              have hs := HS.out
              rw [HT.out] at hs
              exact ⟨q + 1, d, by omega, by go_num, by simpa using hs, by omega, HO2.out, HB2.out⟩
            case measure => simp [intOf]; omega
          · rw [ht] at hbit
            have HT := Lib.hid ht
            clear ht
            go_wp2_with (at_builtin; refine wpList_append_ints rfl _ _ 27 rfl .i64 w.heap.size 3 i0 8 Try.underlying27 hi hz0 hz1 hz2 u3 (us.length + d.length) (ints (us ++ d.map (64 * k + ·))) rfl (HO2.out.alloc _) _ 1 1 [64 * (k : Int) + (q : Int)] rfl (Rd.lit wr 3 (0, 0) _ HZ.out) q1 q2 (q3 _) ?_; intro v3 w3 hown3 hgr3)
            go_roundw
            case rel =>
              have hs := HS.out
              rw [HT.out] at hs
              refine ⟨q + 1, d ++ [q], by omega, by go_num, by simpa using hs, by rw [List.length_append, List.length_singleton]; omega, ?_, (HB2.out.alloc HB2.out.size _).grown hgr3 (q3 _) (fun k hk => (HO2.out.lt k hk).1)⟩
              have e : ints (us ++ (d ++ [q]).map (64 * k + ·)) = ints (us ++ d.map (64 * k + ·)) ++ [64 * (k : Int) + (q : Int)] := by
                rw [List.map_append, ← List.append_assoc, ints_append]
                congr 1
              rw [e, List.length_append, List.length_singleton, ← Nat.add_assoc]
              exact hown3
            case measure => simp [intOf]; omega
        · have e : q = 64 := by omega
          subst e
          clear hd hown2 hB2
          go_wp2
          go_roundw
          case rel =>
            have e := HE.out
            rw [HU.out] at e
            have e2 := HX.out
            unfold wd at e2
            have e3 : bitsOf x = d := HD.out
            rw [e2, e3] at e
            refine ⟨k + 1, by omega, by go_num, ?_, HB2.out⟩
            rw [e, List.length_append, List.length_map]
            exact HO2.out
          case measure => simp [intOf]; omega
    · have e : k = n := by omega
      subst e
      rw [List.take_of_length_le (by rw [HL.out]; omega)] at hown
      obtain ⟨D, cD, rfl, h1, h2, _⟩ := own_slice hown
      have HOW := Lib.hid hown
      go_wp2
      go_ret
      exact ⟨_, rfl, HOW.out, hB⟩
end
section
variable (A : Option Addr) (n c : Nat) (zs : List Int) (w : World)
set_option maxRecDepth 100000 in
set_option maxHeartbeats 1000000 in
theorem refOfO (hn : n ≤ maxLen) (h : Rd .i64 w A n zs) :
    Calls Try.prog 38 #[.slice A n c] w (GotSetO w 64 (ofI zs)) := by
  obtain ⟨i0, hi, hz0, hz1, hz2⟩ := info_parts infoW
  have hall : ∀ z ∈ zs, may z → z.toNat / 64 < 64 := fun z hz hm => by unfold may at hm; omega
  unfold maxLen at hn
  have HL := Lib.hid h.len
  have b1 : i0.bytes * 64 ≤ 281474976710656 := by rw [hz2]; omega
  have b2 : 64 ≤ maxLen := by decide
  have HA := Lib.hid hall
  clear hall
  go_enter Try.func38, Try.ntmps38
  go_wp2_with (at_make; refine wpList_make_full _ rfl _ _ 35 rfl w.heap.size 62 i0 (.int .u64 0) 1 Try.underlying35 hi hz0 hz1 .i64 .i64 _ _ 64 rfl rfl (by omega) (by omega) b1 b2 (Nat.le_refl _) ?_; intro w1 hmade hgr1; rw [made_words] at hmade)
  have hmade' : Row w1 w.heap.size w.heap.size 64 64 (puts (List.replicate 64 0) (zs.take 0)) := hmade
  have hB1 : Below w.heap.size w w1 := (Below.refl _ _).grown hgr1 (Nat.le_refl _) (by simp)
  clear hmade hgr1
  go_loopw [9] (fun i wr => ∃ k : Nat, k ≤ n ∧ i = .int .i64 k ∧ Row wr w.heap.size w.heap.size 64 64 (puts (List.replicate 64 0) (zs.take k)) ∧ Below w.heap.size w wr) (fun i _ => n - (intOf i).toNat)
  case atStart => exact ⟨0, Nat.zero_le _, rfl, hmade', hB1⟩
  case round =>
    obtain ⟨k, hk, rfl, hrow, hB⟩ := hrel
    clear hmade' hB1
    have hA := h.below hB
    have hws : Ws (puts (List.replicate 64 0) (zs.take k)) := puts_ws _ (fun j => by rw [List.getElem?_replicate]; split <;> simp)
    by_cases h0 : k < n
    · have hk0 : (k : Int) < (n : Int) := by omega
      obtain ⟨b, off, e1, hc⟩ := hA.cell (by omega)
      subst e1
      have hc1 := hc k h0
      have HT := Lib.hid (take_snoc zs k (by rw [HL.out]; exact h0))
      have hzm : zs[k]?.getD 0 ∈ zs := by
        have : k < zs.length := by rw [HL.out]; exact h0
        rw [List.getElem?_eq_getElem this]
        exact List.getElem_mem this
      have HM := Lib.hid (HA.out _ hzm)
      obtain ⟨z, hz⟩ : ∃ z, zs[k]?.getD 0 = z := ⟨_, rfl⟩
      rw [hz] at hc1 HM
      obtain ⟨L, hL⟩ : ∃ L, puts (List.replicate 64 0) (zs.take k) = L := ⟨_, rfl⟩
      have hnext : puts (List.replicate 64 0) (zs.take (k + 1)) = put L z := by rw [HT.out, puts_snoc, hL, hz]
      rw [hL] at hrow hws
      have HN := Lib.hid hnext
      have HR := Lib.hid hrow
      have HB := Lib.hid hB
      clear hc hzm hz hnext hB hA hL
      by_cases hm : 0 ≤ z ∧ z ≤ 4095
      · obtain ⟨x, rfl⟩ := Int.eq_ofNat_of_zero_le hm.1
        have hpl := HM.out hm
        simp only [Int.toNat_natCast] at hpl
        have hp := put_at L x (by omega)
        obtain ⟨p, hpe⟩ : ∃ p, x / 64 = p := ⟨_, rfl⟩
        obtain ⟨t, hte⟩ : ∃ t, x % 64 = t := ⟨_, rfl⟩
        rw [hpe, hte] at hp
        rw [hpe] at hpl
        have e2 : (x : Int) / 64 = (p : Int) := by omega
        have e3 : (x : Int) % 64 = (t : Int) := by omega
        have e4 : (t : Int) ≤ 64 := by omega
        have e6 : IntKind.u64.wrap (t : Int) = (t : Int) := by rw [IntKind.wrap_u64]; omega
        have hx0 : (0 : Int) ≤ (x : Int) := by omega
        have hxb : (x : Int) ≤ 4095 := by omega
        have hpK : (p : Int) < 64 := by omega
        have hc2 := hrow.cell hpl
        have hc3 := hrow.frozenAt p
        have e5 := or_bit (wd L p) t (hws p) (by omega)
        have HP := Lib.hid hp
        clear hm hp hpe hte hrow hws
        go_wp2
        go_roundw
        case rel => exact ⟨k + 1, by omega, by go_num, by rw [HN.out, HP.out]; exact HR.out.set p _, HB.out.setCell (Nat.le_refl _) _⟩
        case measure => simp [intOf]; omega
      · have HP := Lib.hid (put_out L z hm)
        have hcase : z < 0 ∨ (0 ≤ z ∧ 4095 < z) := by omega
        clear hm hrow hws
        rcases hcase with hc5 | ⟨hc5, hc6⟩
        · go_wp2
          go_roundw
          case rel => exact ⟨k + 1, by omega, by go_num, by rw [HN.out, HP.out]; exact HR.out, HB.out⟩
          case measure => simp [intOf]; omega
        · go_wp2
          go_roundw
          case rel => exact ⟨k + 1, by omega, by go_num, by rw [HN.out, HP.out]; exact HR.out, HB.out⟩
          case measure => simp [intOf]; omega
    · have e : k = n := by omega
      subst e
      rw [List.take_of_length_le (by rw [HL.out]; omega)] at hrow hws
      have hgot := refTrimO _ 64 64 _ wr (by omega) (by omega) (by decide) (hrow.reads hws)
      have HG := Lib.hid hgot
      have HB := Lib.hid hB
      clear hgot hrow hB hA hws
      go_wp2_with fail
      refine HG.out.mono ?_
      intro e w2 hg1
      have hgot := hg1.after HB.out (Nat.le_refl _) (g := ofI zs) (fun i => by rw [puts_has zs (fun z hz hm => by rw [List.length_replicate]; exact HA.out z hz hm), has_zeros, Bool.false_or])
      clear hg1
      obtain ⟨E, n2, us, rfl, hgot⟩ := hgot
      go_wp2
      go_ret
      exact ⟨E, n2, us, rfl, hgot⟩
end
end Go.Proofs.Ytcpmcgbjmncalaa.BitsWalks

namespace Go.Proofs.Ytcpmcgbjmncalaa.BitsWalks
open Go.RowKit Go.Proofs.Ytcpmcgbjmncalaa.Ints Go.Proofs.Ytcpmcgbjmncalaa.Words Go.Proofs.Ytcpmcgbjmncalaa.RdW

theorem Row.heap {w : World} {base g K : Nat} {xs : List Nat} (h : Row w base g K K xs) : w.heap[g]? = some (.cells ((ints xs).map (Value.int .u64)).toArray 62 (0, 0)) := by
  rcases h.2 with ⟨h1, _⟩ | ⟨g', cap, cur, h1, _, hh, _, _, hs, hx⟩
  · cases h1
  · injection h1 with e1 _ e2
    injection e1 with e1
    injection e1 with e1
    subst e1; subst e2
    rw [List.take_of_length_le (by simp [hs])] at hx
    rw [hh, ← hx]
theorem mask_low (x b : Nat) (hx : x < 18446744073709551616) (hb : b < 64) : bits .and .u64 (x : Int) (IntKind.u64.wrap (IntKind.u64.wrap ((2 : Int) ^ b) - 1)) = ((x % 2 ^ b : Nat) : Int) := by
  have h1 : 2 ^ b < 2 ^ 64 := Nat.pow_lt_pow_right (by omega) hb
  have h0 := Nat.two_pow_pos b
  have e1 : (2 : Int) ^ b = ((2 ^ b : Nat) : Int) := by rw [Int.natCast_pow]; rfl
  have e2 : IntKind.u64.wrap (IntKind.u64.wrap ((2 : Int) ^ b) - 1) = ((2 ^ b - 1 : Nat) : Int) := by
    rw [e1, IntKind.wrap_u64, IntKind.wrap_u64]
    omega
  rw [e2, bits_and_u64_nat x (2 ^ b - 1) hx (by omega), Nat.and_two_pow_sub_one_eq_mod]
section
variable (A B : Option Addr) (n c m d : Nat) (xs ys : List Nat) (w : World)

end
end Go.Proofs.Ytcpmcgbjmncalaa.BitsWalks
