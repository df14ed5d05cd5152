/-
  The walk of the law SumTells: one byte changed is told, and two side by side that change places. By an AI agent.
-/
import Derived.Test.YtohofmngffnefaaSumWalks2
import Derived.RegionTactic
import Derived.BigRegion
import Derived.Deep.RegionHeld3
import Derived.StillTailTactics
import Derived.IntWalk
import Derived.BigQuiet
import Derived.Deep.QuietTactic
namespace Go.Proofs.Ytohofmngffnefaa.SumWalks
open Go.RowKit Go.Proofs.Ytohofmngffnefaa.SumMath Go.Proofs.Ytohofmngffnefaa.Ints

theorem info5 : (Try.prog.info? 5).map (fun i => (i.zero, i.size, i.bytes)) = some (some (.int .u8 0), 1, 1) := by kernel_rfl

theorem told_change (zs : List Int) (j : Nat) (x y : Int) (hj : j < zs.length) (hz : 0 ≤ zs[j]?.getD 0 ∧ zs[j]?.getD 0 ≤ 255) (hy : 0 ≤ y ∧ y ≤ 255) (hxy : y = zs[j]?.getD 0 ↔ x = 0) :
    (adn 1 (zs.set j y) == adn 1 zs) = (x == 0) := by
  rw [List.getElem?_eq_getElem hj, Option.getD_some] at hz hxy
  have e1 : zs.set j y = zs.take j ++ y :: zs.drop (j + 1) := List.set_eq_take_append_cons_drop ▸ by rw [if_pos hj]
  have e2 : zs = zs.take j ++ zs[j] :: zs.drop (j + 1) := by rw [List.getElem_cons_drop, List.take_append_drop]
  rw [Bool.eq_iff_iff, beq_iff_eq, beq_iff_eq, ← hxy, e1]
  constructor
  · intro h
    rw [show adn 1 zs = adn 1 (zs.take j ++ zs[j] :: zs.drop (j + 1)) from by rw [← e2]] at h
    exact adn_changed 1 _ _ _ _ hy hz h
  · intro h
    rw [h, ← e2]
theorem told_swap (zs : List Int) (j : Nat) (hj : j + 1 < zs.length) (hz : ∀ i, i < zs.length → 0 ≤ zs[i]?.getD 0 ∧ zs[i]?.getD 0 ≤ 255) :
    (adn 1 ((zs.set j (zs[j + 1]?.getD 0)).set (j + 1) (zs[j]?.getD 0)) == adn 1 zs) = (zs[j]?.getD 0 == zs[j + 1]?.getD 0) := by
  have h1 := hz j (by omega)
  have h2 := hz (j + 1) hj
  have hj' : j < zs.length := by omega
  simp only [List.getElem?_eq_getElem hj, List.getElem?_eq_getElem hj', Option.getD_some] at h1 h2 ⊢
  have e1 : (zs.set j zs[j + 1]).set (j + 1) zs[j] = zs.take j ++ zs[j + 1] :: zs[j] :: zs.drop (j + 2) := by
    apply List.ext_getElem?
    intro i
    rw [List.getElem?_set, List.getElem?_set, List.getElem?_append, List.length_take]
    by_cases a : i = j
    · subst a
      simp [hj', show min i zs.length = i by omega]
    · by_cases b : i = j + 1
      · subst b
        simp [hj, show min j zs.length = j by omega]
      · rw [if_neg (by omega), if_neg (by omega), show min j zs.length = j by omega]
        by_cases c : i < j
        · rw [if_pos c, List.getElem?_take_of_lt c]
        · rw [if_neg c]
          obtain ⟨q, rfl⟩ : ∃ q, i = j + 2 + q := ⟨i - (j + 2), by omega⟩
          rw [show j + 2 + q - j = q + 2 by omega]
          simp
  have e2 : zs = zs.take j ++ zs[j] :: zs[j + 1] :: zs.drop (j + 2) := by rw [List.getElem_cons_drop, List.getElem_cons_drop, List.take_append_drop]
  rw [Bool.eq_iff_iff, beq_iff_eq, beq_iff_eq, e1]
  constructor
  · intro h
    rw [show adn 1 zs = adn 1 (zs.take j ++ zs[j] :: zs[j + 1] :: zs.drop (j + 2)) from by rw [← e2]] at h
    exact (adn_swapped 1 _ _ _ _ h2 h1 h).symm
  · intro h
    rw [show zs.take j ++ zs[j + 1] :: zs[j] :: zs.drop (j + 2) = zs.take j ++ zs[j] :: zs[j + 1] :: zs.drop (j + 2) from by rw [h], ← e2]

theorem cell_later {W w' : World} {p : Addr} {u : Value} (hb : Below W.heap.size W w') (h : W.cell? p = some u) : w'.cell? p = some u := (hb.cell (World.block_lt_of_cell? W p h)).trans h

set_option maxHeartbeats 400000 in
theorem lawTells (a x : Int) (A : Option Addr) (n c : Nat) (zs : List Int) (w : World) (hx : 0 ≤ x ∧ x ≤ 255)
    (hn : n ≤ c) (hc : c ≤ 140737488351232) (h : Rd .u8 w A n zs) :
    Calls Try.prog 6 #[.slice A n c, .int .i64 a, .int .u8 x] w fun e w' => e = .returned (.bool true) ∧ Below w.heap.size w w' := by
  have hcm : c ≤ maxLen := by unfold maxLen; omega
  obtain ⟨i0, hi, hz0, hz1, hz2⟩ := info_parts info5
  by_cases h0 : n = 0
  · subst h0
    go_enter Try.func6, Try.ntmps6
    go_wp2_with (go_at_call 12; refine (awake _).mono ?_; rintro e w' ⟨rfl, hb⟩)
    go_ret
    exact ⟨rfl, by assumption⟩
  have hn0 : 0 < n := by omega
  have hne : ((n : Int) == 0) = false := by simp; omega
  have hpos : (0 : Int) < (n : Int) := by omega
  have hnm : (n : Int) ≤ 140737488351232 := by omega
  obtain ⟨u, hu, hu0, hu1⟩ : ∃ u : Int, IntKind.u64.wrap a = u ∧ 0 ≤ u ∧ u < 18446744073709551616 := ⟨_, rfl, by simp [IntKind.wrap, IntKind.signed, IntKind.bits]; omega⟩
  obtain ⟨j, hj, hjn⟩ : ∃ j : Nat, u % (n : Int) = (j : Int) ∧ j < n := ⟨(u % (n : Int)).toNat, by rw [Int.toNat_of_nonneg (Int.emod_nonneg _ (by omega))], by
    have := Int.emod_lt_of_pos u hpos
    have := Int.emod_nonneg u (b := (n : Int)) (by omega)
    omega⟩
  have q1 : 0 + n ≤ maxLen := by omega
  have q2 : (0 + n) * 1 ≤ 140737488355328 := by omega
  have q3 : w.heap.size ≤ (w.alloc (.cells #[] 5)).heap.size := by simp
  go_enter Try.func6, Try.ntmps6
  go_wp2_with (at_builtin; refine wpList_append_ints rfl _ _ 23 rfl .u8 w.heap.size 5 i0 1 Try.underlying23 hi hz0 hz1 hz2 (.slice (some ⟨w.heap.size, 0, none⟩) 0 0) 0 [] rfl (World.ownsRow_made w #[] 0 (Nat.le_refl _) (by decide) rfl) _ _ _ zs rfl (h.alloc _) q1 q2 q3 ?_; intro v' w1 hown hgr; simp only [Nat.zero_add, List.nil_append] at hown; obtain ⟨g, cap, rfl, hgb, hglt, hcap, hcapm⟩ := own_form hown hn0; have hcj := own_cell hown hjn; have hfj := hown.frozenAt j)
  have hzb := h.u8 j hjn
  have hxo := xor_u8 _ _ hzb hx
  obtain ⟨y, hy⟩ : ∃ y, bits BinOp.xor .u8 (zs[j]?.getD 0) x = y := ⟨_, rfl⟩
  rw [hy] at hxo ⊢
  have F1 := told_change zs j x y (by rw [h.len]; exact hjn) hzb hxo.1 hxo.2
  have hrc : Rd .u8 (w1.setCell ⟨g, j, none⟩ (.int .u8 y)) (some ⟨g, 0, none⟩) n (zs.set j y) := Rd.own (own_set hown j y) (wf_set h.all (u8_wf hxo.1))
  have hB : Below w.heap.size w (w1.setCell ⟨g, j, none⟩ (.int .u8 y)) := (((Below.refl _ _).alloc (Nat.le_refl _) _).grown hgr (by simp) (by rintro k hk; simp [Value.ownBlock] at hk; omega)).setCell hgb _
  have HF1 := Lib.hid F1
  clear F1 hcj hfj hy
  refine (sumSum _ n cap _ _ hcap hcapm hrc).mono ?_
  rintro e w' ⟨rfl, rfl⟩
  go_wp2_with fail
  generalize w1.setCell ⟨g, j, none⟩ (.int .u8 y) = W2 at *
  clear hown hgr hrc hxo
  have hA := h.below hB
  refine (sumSum A n c zs W2 hn hcm hA).mono ?_
  rintro e w' ⟨rfl, rfl⟩
  have F1 := HF1.out
  have hsz := hB.size
  by_cases hj1 : j + 1 < n
  · have hj1' : ((j : Int) + 1 < (n : Int)) := by omega
    have q4 : W2.heap.size ≤ (W2.alloc (.cells #[] 5)).heap.size := by simp
    go_wp2_with (at_builtin; refine wpList_append_ints rfl _ _ 23 rfl .u8 W2.heap.size 5 i0 1 Try.underlying23 hi hz0 hz1 hz2 (.slice (some ⟨W2.heap.size, 0, none⟩) 0 0) 0 [] rfl (World.ownsRow_made W2 #[] 0 (Nat.le_refl _) (by decide) rfl) _ _ _ zs rfl (hA.alloc _) q1 q2 q4 ?_; intro v' w3 hown hgr; simp only [Nat.zero_add, List.nil_append] at hown; obtain ⟨g2, cap2, rfl, hgb2, hglt2, hcap2, hcapm2⟩ := own_form hown hn0)
    have hB3 : Below w.heap.size w w3 := (hB.alloc hsz _).grown hgr (by simp; omega) (by rintro k hk; simp [Value.ownBlock] at hk; omega)
    have hA3 := h.below hB3
    obtain ⟨b, off, rfl, hcells⟩ := hA3.cell hn0
    have c1 := hcells j hjn
    have c2 := hcells (j + 1) hj1
    have c3 := own_cell hown hjn
    have c4 := own_cell hown hj1
    have f3 := hown.frozenAt j
    have f4 := hown.frozenAt (j + 1)
    clear hcells hj
    go_region
    go_wp2_with fail
    have hz1' : (zs.set j (zs[j + 1]?.getD 0)).length = n := by rw [List.length_set, h.len]
    have hrd : Rd .u8 (((w3.setCell ⟨g2, j, none⟩ (.int .u8 (zs[j + 1]?.getD 0))).setCell ⟨g2, j + 1, none⟩ (.int .u8 (zs[j]?.getD 0))).drew) (some ⟨g2, 0, none⟩) n ((zs.set j (zs[j + 1]?.getD 0)).set (j + 1) (zs[j]?.getD 0)) :=
      (Rd.own (own_set (own_set hown j _) (j + 1) _) (wf_set (wf_set h.all (h.wf _ hj1)) (h.wf _ hjn))).drew
    have hB4 : Below w.heap.size w (((w3.setCell ⟨g2, j, none⟩ (.int .u8 (zs[j + 1]?.getD 0))).setCell ⟨g2, j + 1, none⟩ (.int .u8 (zs[j]?.getD 0))).drew) := ((hB3.setCell (by show _ ≤ g2; omega) _).setCell (by show _ ≤ g2; omega) _).drew
    have F2 := told_swap zs j (by rw [h.len]; exact hj1) (by rw [h.len]; exact h.u8)
    generalize (((w3.setCell ⟨g2, j, none⟩ (.int .u8 (zs[j + 1]?.getD 0))).setCell ⟨g2, j + 1, none⟩ (.int .u8 (zs[j]?.getD 0))).drew) = W4 at *
    have hA4 := h.below hB4
    obtain ⟨b', off', e', hcells⟩ := hA4.cell hn0
    simp only [Option.some.injEq, Addr.mk.injEq, and_true] at e'
    obtain ⟨rfl, rfl⟩ := e'
    have d1 := hcells j hjn
    have d2 := hcells (j + 1) hj1
    clear hcells c1 c2 c3 c4 f3 f4 hown hgr hA hA3 hB3 hB F1 HF1 hz1'
    have hsz4 := hB4.size
    have HB4 := Lib.hid hB4
    clear hB4 hi hz0 hz1 hz2
    have k1 : IntKind.i64.wrap ((j : Int) + 1) = (j : Int) + 1 := IntWalk.i64_in _ (by omega)
    have k2 : (0 : Int) ≤ (j : Int) + 1 := by omega
    have k3 : ((j : Int) + 1).toNat = j + 1 := by omega
    have k4 : (j : Int) < (n : Int) := by omega
    have k5 : (0 : Int) ≤ (j : Int) := by omega
    go_region_held3 (fun w' => w'.cell? ⟨b, off + j, none⟩ = some (.int .u8 (zs[j]?.getD 0)) ∧ w'.cell? ⟨b, off + (j + 1), none⟩ = some (.int .u8 (zs[j + 1]?.getD 0)))
      (first | exact ⟨d1, d2⟩ | exact ⟨cell_later hb d1, cell_later hb d2⟩)
      (first
        | (go_at_call 8; refine (sumSum _ _ _ _ _ (by assumption) (by assumption) (by first | exact hrd.drew | exact hA4.drew | exact hrd | exact hA4)).mono ?_; rintro e w' ⟨rfl, rfl⟩)
        | (go_at_call 12; refine (awake _).mono ?_; rintro e w' ⟨rfl, hb⟩))
    go_wp2
    go_ret
    exact ⟨rfl, HB4.out.drew.trans (hb.mono hsz4)⟩
  · have hj1' : ¬ ((j : Int) + 1 < (n : Int)) := by omega
    go_wp2_with (go_at_call 12; refine (awake _).mono ?_; rintro e w' ⟨rfl, hb⟩)
    go_ret
    exact ⟨rfl, hB.trans (hb.mono hsz)⟩
