/-
  The walk of the law SumGoesOn. By an AI agent.
-/
import Derived.Test.YtohofmngffnefaaSumWalks4
namespace Go.Proofs.Ytohofmngffnefaa.SumWalks
open Go.RowKit Go.Proofs.Ytohofmngffnefaa.SumMath Go.Proofs.Ytohofmngffnefaa.Ints

theorem str_of' {W : World} {A : Option Addr} {n c : Nat} {zs : List Int} (h : Rd .u8 W A n zs) : (convert 23 9 (.slice A n c)).run Try.prog W = .ok (.string (strOfNums zs)) W :=
  run_str _ _ _ Try.underlying23 Try.underlying5 Try.underlying9 h

/-- What was put is right. -/
theorem rightPut (A : Option Addr) (n c : Nat) (zs : List Int) (w : World) (hn : n + 4 ≤ c) (hcm : c ≤ maxLen) (hc : n ≤ 140737488351232) (hl : zs.length = n) (h : Rd .u8 w A (n + 4) (zs ++ be4 (adn 1 zs))) :
    Calls Try.prog 13 #[.slice A (n + 4) c] w (Opened w n zs) := by
  obtain ⟨b, off, rfl, _⟩ := h.cell (by omega)
  have e1 : (zs ++ be4 (adn 1 zs)).take n = zs := by rw [← hl]; simp
  have e2 : (zs ++ be4 (adn 1 zs)).drop n = be4 (adn 1 zs) := by rw [← hl]; simp
  have ht := h.drop (m := n) (by omega)
  rw [e2, show n + 4 - n = 4 by omega] at ht
  have b1 := ht.u8 1 (by omega)
  have b2 := ht.u8 2 (by omega)
  have b3 := ht.u8 3 (by omega)
  simp [be4] at b1 b2 b3
  have hr1 : (adn 1 zs / 16777216 * 16777216 + adn 1 zs / 65536 % 256 * 65536 + adn 1 zs / 256 % 256 * 256 + adn 1 zs % 256 != adn 1 ((zs ++ be4 (adn 1 zs)).take n)) = false := by
    rw [e1, bne_eq_false_iff_eq]; exact (be4_back (by omega) (by omega) (by omega)).2 rfl
  refine (rightLong b off n c _ _ _ _ _ w hn hcm hc h (e2.trans rfl) false hr1).mono fun e w' hh => ?_
  have hh' : Opened w n ((zs ++ be4 (adn 1 zs)).take n) e w' := hh
  rwa [e1] at hh'

set_option maxHeartbeats 1000000 in
theorem lawGoesOn (A B C : Option Addr) (n1 c1 n2 c2 n3 c3 : Nat) (z1 z2 z3 : List Int) (w : World) (hn1 : n1 ≤ c1) (hc1 : c1 ≤ 1048576) (hn2 : n2 ≤ c2) (hc2 : c2 ≤ 1048576) (hn3 : n3 ≤ c3) (hc3 : c3 ≤ 1048576)
    (h1 : Rd .u8 w A n1 z1) (h2 : Rd .u8 w B n2 z2) (h3 : Rd .u8 w C n3 z3) :
    Calls Try.prog 5 #[.slice A n1 c1, .slice B n2 c2, .slice C n3 c3] w fun e w' => e = .returned (.bool true) ∧ Below w.heap.size w w' := by
  obtain ⟨i0, hi, hz0, hz1, hz2⟩ := info_parts info5'
  have m1 : c1 ≤ maxLen := by unfold maxLen; omega
  have m2 : c2 ≤ maxLen := by unfold maxLen; omega
  have m3 : c3 ≤ maxLen := by unfold maxLen; omega
  have q0 : w.heap.size ≤ (w.alloc (.cells #[] 5)).heap.size := by simp
  have q1 : 0 + n1 ≤ maxLen := by unfold maxLen; omega
  have q2 : n1 + n2 ≤ maxLen := by unfold maxLen; omega
  have q3 : n1 + n2 + n3 ≤ maxLen := by unfold maxLen; omega
  have q4 : (0 + n1) * 1 ≤ 140737488355328 := by omega
  have q5 : (n1 + n2) * 1 ≤ 140737488355328 := by omega
  have q6 : (n1 + n2 + n3) * 1 ≤ 140737488355328 := by omega
  have hall : ∀ z ∈ z1 ++ z2 ++ z3, (Lit.int .u8 z).wf = true := fun z hz => (List.mem_append.1 hz).elim (fun h => (List.mem_append.1 h).elim (h1.all z) (h2.all z)) (h3.all z)
  have hlen : (z1 ++ z2 ++ z3).length = n1 + n2 + n3 := by simp only [List.length_append, h1.len, h2.len, h3.len]
  have HL := Lib.hid hlen
  clear hlen
  go_enter Try.func5, Try.ntmps5
  go_wp2_with (first
    | (at_builtin; refine wpList_append_ints rfl (.tmp 14) (.tmp 15) 23 rfl .u8 w.heap.size 5 i0 1 Try.underlying23 hi hz0 hz1 hz2 v2 (n1 + n2) (z1 ++ z2) rfl ho2 _ _ _ z3 rfl (h3.below hb2) q3 q6 hb2.size ?_; intro v3 w3 ho3 hg3; have hb3 := hb2.grown hg3 hb2.size (fun k hk => (ho2.lt k hk).1))
    | (at_builtin; refine wpList_append_ints rfl (.tmp 12) (.tmp 13) 23 rfl .u8 w.heap.size 5 i0 1 Try.underlying23 hi hz0 hz1 hz2 v1 n1 z1 rfl ho1 _ _ _ z2 rfl (h2.below hb1) q2 q5 hb1.size ?_; intro v2 w2 ho2 hg2; have hb2 := hb1.grown hg2 hb1.size (fun k hk => (ho1.lt k hk).1))
    | (at_builtin; refine wpList_append_ints rfl (.tmp 10) (.tmp 11) 23 rfl .u8 w.heap.size 5 i0 1 Try.underlying23 hi hz0 hz1 hz2 (.slice (some ⟨w.heap.size, 0, none⟩) 0 0) 0 [] rfl (World.ownsRow_made w #[] 0 (Nat.le_refl _) (by decide) rfl) _ _ _ z1 rfl (h1.alloc _) q1 q4 q0 ?_; intro v1 w1 ho1 hg1; simp only [Nat.zero_add, List.nil_append] at ho1; have hb1 : Below w.heap.size w w1 := ((Below.refl _ _).alloc (Nat.le_refl _) _).grown hg1 (by simp) (by rintro k hk; simp [Value.ownBlock] at hk; omega)))
  obtain ⟨D, cD, rfl, hcD, hmD, _⟩ := own_slice ho3
  have hD := Rd.own ho3 hall
  clear ho1 hg1 hb1 ho2 hg2 hb2 hg3 ho3
  have e12 : adn (adn (adn 1 z1) z2) z3 = adn 1 (z1 ++ z2 ++ z3) := by rw [adn_append, adn_append, List.append_assoc]
  have e00 : adn (adn 1 z1) [] = adn 1 z1 := by rw [adn_append, List.append_nil]
  generalize z1 ++ z2 ++ z3 = zs at *
  generalize hN : n1 + n2 + n3 = N at *
  have hN3 : N ≤ 3145728 := by omega
  have HE12 := Lib.hid e12
  have HE00 := Lib.hid e00
  clear e12 e00 hN
  refine (sumPut D N cD zs _ hcD hmD (by omega) hD).mono ?_
  rintro e w4 ⟨v4, rfl, ho4, hb4⟩
  obtain ⟨E, cE, rfl, hcE, hmE, _⟩ := own_slice ho4
  have hE := Rd.own ho4 (fun z hz => (List.mem_append.1 hz).elim (hall z) (be4_wf (adn_bd 1 zs) z))
  clear ho4
  go_wp2_with fail
  refine (rightPut E N cE zs _ hcE hmE (by omega) HL.out hE).mono ?_
  rintro e w5 ⟨F, cF, rfl, hF, hb5⟩
  have hB5 : Below w.heap.size w w5 := hb3.trans ((hb4.trans (hb5.mono hb4.size)).mono hb3.size)
  have hD5 := (hD.below hb4).below hb5
  have r1 := h1.below hB5
  have r2 := h2.below hB5
  have r3 := h3.below hB5
  have sF := str_of' (c := cF) hF
  have sD := str_of' (c := cD) hD5
  have HB5 := Lib.hid hB5
  clear hb3 hb4 hb5 hD hE hB5 h1 h2 h3
  have t1 := adn_bd 1 z1
  have t2 := adn_bd (adn 1 z1) z2
  have k1 := sumSum A n1 c1 z1 w5 hn1 m1 r1
  have k2 := sumMore (adn 1 z1) B n2 c2 z2 w5 t1.1 t1.2 hn2 m2 r2
  have k3 := sumMore (adn (adn 1 z1) z2) C n3 c3 z3 w5 t2.1 t2.2 hn3 m3 r3
  have k4 := sumSum D N cD zs w5 hcD hmD hD5
  have k5 := sumMore (adn 1 z1) none 0 0 [] w5 t1.1 t1.2 (Nat.le_refl _) (by decide) (Rd.nil _ _ _)
  rw [HE12.out] at k3
  rw [HE00.out] at k5
  generalize adn (adn 1 z1) z2 = s2 at *
  generalize adn 1 z1 = s1 at *
  generalize adn 1 zs = s at *
  have K1 := Lib.hid k1
  have K2 := Lib.hid k2
  have K3 := Lib.hid k3
  have K4 := Lib.hid k4
  have K5 := Lib.hid k5
  clear k1 k2 k3 k4 k5
  go_wp2_with fail
  refine K1.out.mono ?_
  rintro e w' ⟨rfl, rfl⟩
  go_wp2_with fail
  refine K2.out.mono ?_
  rintro e w' ⟨rfl, rfl⟩
  go_wp2_with fail
  refine K3.out.mono ?_
  rintro e w' ⟨rfl, rfl⟩
  go_wp2_with fail
  refine K4.out.mono ?_
  rintro e w' ⟨rfl, rfl⟩
  go_wp2_with fail
  refine K1.out.mono ?_
  rintro e w' ⟨rfl, rfl⟩
  go_wp2_with fail
  refine K5.out.mono ?_
  rintro e w' ⟨rfl, rfl⟩
  go_wp2_with fail
  refine K1.out.mono ?_
  rintro e w' ⟨rfl, rfl⟩
  go_wp2_with (go_at_call 12; refine (awake _).mono ?_; rintro e w6 ⟨rfl, hb6⟩)
  go_ret
  exact ⟨rfl, HB5.out.trans (hb6.mono HB5.out.size)⟩
