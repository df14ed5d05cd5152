/-
  The walk of the law TreeSame. By an AI agent.
-/
import Derived.Test.YtmahbocelckmcaaTreeLaw2
import Derived.Test.YtmahbocelckmcaaTreeSet
namespace Go.Proofs.Ytmahbocelckmcaa.Tree
open Go.RowKit Go.Sort Go.Proofs.Ytmahbocelckmcaa.Ints

theorem same_self (l : List Nd) : sameL l l = mayL l := by
  unfold sameL
  cases mayL l <;> simp
theorem same_swap (a b : List Nd) : sameL a b = sameL b a := by
  unfold sameL
  have : decide (a = b) = decide (b = a) := decide_eq_decide.2 ⟨fun h => h.symm, fun h => h.symm⟩
  rw [this]
  cases mayL a <;> cases mayL b <;> rfl
theorem same_kinds {a b : List Nd} (h1 : formL a = true) (h2 : formL b = false) : sameL a b = false := by
  unfold sameL
  have : decide (a = b) = false := decide_eq_false fun e => by rw [e, h2] at h1; cases h1
  rw [this]
  simp

set_option maxHeartbeats 8000000 in
set_option maxRecDepth 100000 in
theorem lawSameLong (A1 A2 A : Option Addr) (n1 c1 n2 c2 n c : Nat) (at_ : Int) (nm : ByteArray) (w : World) (h1 : n1 ≤ maxLen) (h2 : n2 ≤ maxLen) (hlong : 1000 < n1 ∨ 1000 < n2) :
    Calls Try.prog 8 #[.slice A1 n1 c1, .slice A2 n2 c2, .slice A n c, .int .u8 at_, .string nm] w fun e w' => e = .returned (.bool true) ∧ Below w.heap.size w w' := by
  have hm : maxLen = 9223372036854775807 := rfl
  have hn1 : (n1 : Int) ≤ 9223372036854775807 := by omega
  have hn2 : (n2 : Int) ≤ 9223372036854775807 := by omega
  have HA := Lib.hid (fun W => awake W)
  clear hm
  by_cases hk : 1000 < n1
  · have hk' : (1000 : Int) < (n1 : Int) := by omega
    clear hlong h1 h2 hk
    go_enter Try.func8, Try.ntmps8
    go_wp2_with (go_at_call 9; refine (HA.out _).mono ?_; rintro e w1 ⟨rfl, hb1⟩)
    go_ret
    exact ⟨rfl, hb1⟩
  · have hk' : decide ((1000 : Int) < (n1 : Int)) = false := by simp; omega
    have hk2 : (1000 : Int) < (n2 : Int) := by omega
    clear hlong h1 h2 hk
    go_enter Try.func8, Try.ntmps8
    go_wp2_with (go_at_call 9; refine (HA.out _).mono ?_; rintro e w1 ⟨rfl, hb1⟩)
    go_ret
    exact ⟨rfl, hb1⟩

set_option maxHeartbeats 8000000 in
set_option maxRecDepth 100000 in
theorem lawSameShort (A1 A2 A : Option Addr) (n1 c1 n2 c2 n c : Nat) (la lb : List Nd) (zs : List Int) (at_ : Int) (nm : ByteArray) (w : World) (hl1 : la.length = n1) (hl2 : lb.length = n2) (h1 : n1 ≤ 1000) (h2 : n2 ≤ 1000) (hA1 : Nodes Any w A1 la) (hA2 : Nodes Any w A2 lb)
    (h : Rd .u16 w A n zs) (hn : n ≤ maxLen) (ha : 0 ≤ at_ ∧ at_ ≤ 255) (hnm : nm.size ≤ maxLen) :
    Calls Try.prog 8 #[.slice A1 n1 c1, .slice A2 n2 c2, .slice A n c, .int .u8 at_, .string nm] w fun e w' => e = .returned (.bool true) ∧ Below w.heap.size w w' := by
  have hn1 : decide ((1000 : Int) < (n1 : Int)) = false := by simp; omega
  have hn2 : decide ((1000 : Int) < (n2 : Int)) = false := by simp; omega
  have HA := Lib.hid (fun W => awake W)
  have HZ : ∀ z ∈ zs, 0 ≤ z ∧ z ≤ 65535 := fun z hz => wf_u16 (h.all z hz)
  obtain ⟨gF, lF⟩ := make_ok false zs HZ
  obtain ⟨gR, lR⟩ := reg_ok false zs HZ
  have B0 := Lib.hid (Below.refl w.heap.size w)
  have Q1 := Lib.hid (fun W (hb : Below w.heap.size w W) => landSame A1 A2 n1 c1 n2 c2 la lb W hl1 hl2 (by omega) (by omega) (hA1.below hb) (hA2.below hb))
  have Q2 := Lib.hid (fun W (hb : Below w.heap.size w W) => refSame A1 A2 n1 c1 n2 c2 la lb W hl1 hl2 (by omega) (by omega) (hA1.below hb) (hA2.below hb))
  have Q3 := Lib.hid (fun W (hb : Below w.heap.size w W) => landSame A1 A1 n1 c1 n1 c1 la la W hl1 hl1 (by omega) (by omega) (hA1.below hb) (hA1.below hb))
  have Q4 := Lib.hid (fun W (hb : Below w.heap.size w W) => refMay A1 n1 c1 la W hl1 (by omega) (hA1.below hb))
  rw [same_self] at Q3
  obtain ⟨b1, e1⟩ : ∃ b, sameL la lb = b := ⟨_, rfl⟩
  obtain ⟨b2, e2⟩ : ∃ b, mayL la = b := ⟨_, rfl⟩
  rw [e1] at Q1 Q2
  rw [e2] at Q3 Q4
  have M1 := Lib.hid (fun W (hb : Below w.heap.size w W) => lawMake A n c zs false W (h.below hb) hn)
  have M2 := Lib.hid (fun W (hb : Below w.heap.size w W) => lawReg A n c zs false W (h.below hb) hn)
  obtain ⟨F, hF⟩ : ∃ F, makeL false zs = F := ⟨_, rfl⟩
  obtain ⟨R, hR⟩ : ∃ R, regMk false zs = R := ⟨_, rfl⟩
  rw [hF] at gF lF M1
  rw [hR] at gR lR M2
  have h0 := may_ne gF.1
  obtain ⟨m, hmF⟩ : ∃ m, F.length = m := ⟨_, rfl⟩
  obtain ⟨mR, hmR⟩ : ∃ m, R.length = m := ⟨_, rfl⟩
  rw [hmF] at lF h0
  rw [hmR] at lR
  obtain ⟨i, hi⟩ : ∃ i : Nat, at_ % (m : Int) = (i : Int) := Int.eq_ofNat_of_zero_le (Int.emod_nonneg _ (by omega))
  have him : i < m := by have := Int.emod_lt_of_pos at_ (show (0 : Int) < (m : Int) by omega); omega
  have GF := Lib.hid gF
  have GR := Lib.hid gR
  have HMF := Lib.hid hmF
  have HMR := Lib.hid hmR
  have HLF := Lib.hid lF
  have HLR := Lib.hid lR
  have HNM := Lib.hid hnm
  have HIM := Lib.hid him
  have hiF : (m : Int) ≤ 100 := by omega
  have hi1 : (1 : Int) ≤ (m : Int) := by omega
  have hiz : ((m : Int) == 0) = false := beq_eq_false_iff_ne.2 (by omega)
  have hii : (i : Int) < (m : Int) := by omega
  have hi0 : (0 : Int) ≤ (i : Int) := by omega
  obtain ⟨ha1, ha2⟩ := ha
  have HII := Lib.hid hi
  clear h hn HZ gF gR hF hR hmF hmR lF lR e1 e2 hl1 hl2 h1 h2 hA1 hA2 hnm h0 him hi
  go_enter Try.func8, Try.ntmps8
  go_wp2_with fail
  refine (Q1.out _ B0.out).mono ?_
  rintro e w1 ⟨rfl, hb⟩
  have B1 := Lib.hid (B0.out.trans (hb.mono B0.out.size))
  clear hb
  go_wp2_with fail
  refine (Q2.out _ B1.out).mono ?_
  rintro e w2 ⟨rfl, hb⟩
  have B2 := Lib.hid (B1.out.trans (hb.mono B1.out.size))
  clear hb
  go_wp2_with fail
  refine (Q3.out _ B2.out).mono ?_
  rintro e w3 ⟨rfl, hb⟩
  have B3 := Lib.hid (B2.out.trans (hb.mono B2.out.size))
  clear hb
  go_wp2_with fail
  refine (Q4.out _ B3.out).mono ?_
  rintro e w4 ⟨rfl, hb⟩
  have B4 := Lib.hid (B3.out.trans (hb.mono B3.out.size))
  clear hb
  go_wp2_with fail
  refine (M1.out _ B4.out).mono ?_
  rintro e w5 ⟨AF, cF, rfl, hnF, hcF, hmF, hb⟩
  rw [HMF.out] at hcF ⊢
  have NF := Lib.hid hnF
  have HCF := Lib.hid hcF
  have B5 := Lib.hid (B4.out.trans (hb.mono B4.out.size))
  clear hb hnF hcF hmF
  go_wp2_with fail
  refine (lawCopy AF m cF F w5 HMF.out (by have := HLF.out; omega) (fun x hx => by obtain ⟨j, hj, rfl⟩ := List.getElem_of_mem hx; exact may_arity GF.out.1 (List.getElem?_eq_getElem hj)) NF.out).mono ?_
  rintro e w6 ⟨v, σ, rfl, hO, hσ, -, -, hb⟩
  have hsl : σ.length = m := by rw [← HMF.out, ← hσ, List.length_map]
  obtain ⟨g, cC, rfl, hg1, hg2, hg3, hg4⟩ := hO.form (by have := HIM.out; omega)
  rw [hsl] at hO hg3 ⊢
  obtain ⟨s, hs⟩ : ∃ s, σ[i]? = some s := ⟨_, List.getElem?_eq_getElem (by have := HIM.out; omega)⟩
  have hat := (show OwnNodes _ w6 w5.heap.size (.slice (some ⟨g, 0, none⟩) σ.length cC) σ by rw [hsl]; exact hO).at hs 1 (by omega)
  have hc1 := hat.1
  have hf1 := hat.2
  simp only [cellsS, List.getElem?_cons_succ, List.getElem?_cons_zero] at hc1
  have hset := hO.set (f := 1) (u := .string nm) (s' := ({ s.1 with name := nm }, s.2)) hs (by omega) rfl (by
    obtain ⟨⟨k1, k2, k3, k4, k5⟩, k6⟩ := hO.2 s (List.mem_of_getElem? hs)
    exact ⟨⟨k1, k2, k3, HNM.out, k5⟩, k6⟩)
  have B6 := Lib.hid (B5.out.trans ((hb.setCell (p := ⟨g, i * 5 + 1, none⟩) hg1 (.string nm)).mono B5.out.size))
  have NF6 := Lib.hid (NF.out.below (hb.setCell (p := ⟨g, i * 5 + 1, none⟩) hg1 (.string nm)))
  obtain ⟨A', c', e', hNC, hcc, hcm⟩ := hset.reads (S := fun b => w5.heap.size ≤ b) (fun b hb _ => hb)
  obtain ⟨C, hC⟩ : ∃ C, (σ.set i ({ s.1 with name := nm }, s.2)).map (·.1) = C := ⟨_, rfl⟩
  have hCl : C.length = m := by rw [← hC, List.length_map, List.length_set, hsl]
  rw [List.length_set, hsl] at e' hcc
  injection e' with e1 _ e2
  subst e1; subst e2
  rw [hC] at hNC
  have NC := Lib.hid hNC.any
  have HCL := Lib.hid hCl
  clear hset hO hσ hsl hs hat hNC hCl hC hcc hcm hg1 hg2 hg3 hg4 hb
  have hst := HII.out
  go_wp2_with fail
  generalize w6.setCell ⟨g, i * 5 + 1, none⟩ (.string nm) = W6 at B6 NF6 NC ⊢
  clear hc1 hf1 hst
  have P5 := Lib.hid (fun W (hb : Below W6.heap.size W6 W) => landSame AF AF m cF m cF F F W HMF.out HMF.out (by have := HLF.out; omega) (by have := HLF.out; omega) (NF6.out.below hb) (NF6.out.below hb))
  have P6 := Lib.hid (fun W (hb : Below W6.heap.size W6 W) => landSame AF (some ⟨g, 0, none⟩) m cF m cC F C W HMF.out HCL.out (by have := HLF.out; omega) (by have := HLF.out; omega) (NF6.out.below hb) (NC.out.below hb))
  have P7 := Lib.hid (fun W (hb : Below W6.heap.size W6 W) => refSame AF (some ⟨g, 0, none⟩) m cF m cC F C W HMF.out HCL.out (by have := HLF.out; omega) (by have := HLF.out; omega) (NF6.out.below hb) (NC.out.below hb))
  have P8 := Lib.hid (fun W (hb : Below W6.heap.size W6 W) => landSame (some ⟨g, 0, none⟩) AF m cC m cF C F W HCL.out HMF.out (by have := HLF.out; omega) (by have := HLF.out; omega) (NC.out.below hb) (NF6.out.below hb))
  have P9 := Lib.hid (fun (A2 : Option Addr) (c2 : Nat) (W0 : World) (hb0 : Below W6.heap.size W6 W0) (hN : Nodes Any W0 A2 R) => landSame AF A2 m cF mR c2 F R W0 HMF.out HMR.out (by have := HLF.out; omega) (by have := HLR.out; omega) (NF6.out.below hb0) hN)
  rw [same_self, GF.out.1] at P5
  rw [same_swap C F] at P8
  rw [same_kinds GF.out.form GR.out.form] at P9
  obtain ⟨b3, e3⟩ : ∃ b, sameL F C = b := ⟨_, rfl⟩
  rw [e3] at P6 P7 P8
  have D0 := Lib.hid (Below.refl W6.heap.size W6)
  clear e3
  refine (P5.out _ D0.out).mono ?_
  rintro e w7 ⟨rfl, hb⟩
  have D1 := Lib.hid (D0.out.trans (hb.mono D0.out.size))
  clear hb
  go_wp2_with fail
  refine (P6.out _ D1.out).mono ?_
  rintro e w8 ⟨rfl, hb⟩
  have D2 := Lib.hid (D1.out.trans (hb.mono D1.out.size))
  clear hb
  go_wp2_with fail
  refine (P7.out _ D2.out).mono ?_
  rintro e w9 ⟨rfl, hb⟩
  have D3 := Lib.hid (D2.out.trans (hb.mono D2.out.size))
  clear hb
  go_wp2_with fail
  refine (P8.out _ D3.out).mono ?_
  rintro e w10 ⟨rfl, hb⟩
  have D4 := Lib.hid (D3.out.trans (hb.mono D3.out.size))
  clear hb
  go_wp2_with fail
  refine (P6.out _ D4.out).mono ?_
  rintro e w11 ⟨rfl, hb⟩
  have D5 := Lib.hid (D4.out.trans (hb.mono D4.out.size))
  clear hb
  go_wp2_with fail
  refine (M2.out _ (B6.out.trans (D5.out.mono B6.out.size))).mono ?_
  rintro e w12 ⟨A2, c2, rfl, hnR, -, -, hb⟩
  rw [HMR.out]
  have NR := Lib.hid hnR
  have D6 := Lib.hid (D5.out.trans (hb.mono D5.out.size))
  clear hb hnR
  go_wp2_with fail
  refine (P9.out A2 c2 w12 D6.out NR.out).mono ?_
  rintro e w13 ⟨rfl, hb⟩
  have D7 := Lib.hid (D6.out.trans (hb.mono D6.out.size))
  clear hb
  go_wp2_with fail
  refine (HA.out _).mono ?_
  rintro e w14 ⟨rfl, hb⟩
  have D8 := Lib.hid (D7.out.trans (hb.mono D7.out.size))
  clear hb
  go_wp2
  go_ret
  exact ⟨rfl, B6.out.trans (D8.out.mono B6.out.size)⟩
end Go.Proofs.Ytmahbocelckmcaa.Tree
