/-
  The walk of the law TreeTurned. By an AI agent.
-/
import Derived.Test.YtmahbocelckmcaaTreeLaw2
import Derived.Test.YtmahbocelckmcaaTreeTurn
namespace Go.Proofs.Ytmahbocelckmcaa.Tree
open Go.RowKit Go.Sort Go.Proofs.Ytmahbocelckmcaa.Ints

set_option maxHeartbeats 16000000 in
set_option maxRecDepth 100000 in
theorem lawTurned (A : Option Addr) (n c : Nat) (zs : List Int) (at_ what : Int) (nd : Nd) (K : Option Addr) (cK : Nat) (w : World) (h : Rd .u16 w A n zs) (hn : n ≤ maxLen) (ha : 0 ≤ at_ ∧ at_ ≤ 255) (hw : 0 ≤ what ∧ what ≤ 255) (hok : NodeOk w nd K cK) :
    Calls Try.prog 5 #[.slice A n c, .int .u8 at_, .int .u8 what, .agg #[.int .i64 nd.kind, .string nd.name, .int .i64 nd.lo, .int .i64 nd.hi, .slice K nd.kids.length cK]] w fun e w' => e = .returned (.bool true) ∧ Below w.heap.size w w' := by
  have HA := Lib.hid (fun W => awake W)
  have HZ : ∀ z ∈ zs, 0 ≤ z ∧ z ≤ 65535 := fun z hz => wf_u16 (h.all z hz)
  obtain ⟨gF, lF⟩ := make_ok false zs HZ
  have M1 := Lib.hid (fun W (hb : Below w.heap.size w W) => lawMake A n c zs false W (h.below hb) hn)
  obtain ⟨F, hF⟩ : ∃ F, makeL false zs = F := ⟨_, rfl⟩
  rw [hF] at gF lF M1
  have h0 := may_ne gF.1
  obtain ⟨m, hmF⟩ : ∃ m, F.length = m := ⟨_, rfl⟩
  rw [hmF] at lF h0
  obtain ⟨i, hi⟩ : ∃ i : Nat, at_ % (m : Int) = (i : Int) := Int.eq_ofNat_of_zero_le (Int.emod_nonneg _ (by omega))
  have him : i < m := by have := Int.emod_lt_of_pos at_ (show (0 : Int) < (m : Int) by omega); omega
  have GF := Lib.hid gF
  have HMF := Lib.hid hmF
  have HLF := Lib.hid lF
  have HIM := Lib.hid him
  have HOK := Lib.hid hok
  obtain ⟨mk, hmk⟩ : ∃ mk, nd.kids.length = mk := ⟨_, rfl⟩
  have HMK := Lib.hid hmk
  rw [hmk]
  have hiF : (m : Int) ≤ 100 := by omega
  have hi1 : (1 : Int) ≤ (m : Int) := by omega
  have hiz : ((m : Int) == 0) = false := beq_eq_false_iff_ne.2 (by omega)
  have hii : (i : Int) < (m : Int) := by omega
  have hi0 : (0 : Int) ≤ (i : Int) := by omega
  obtain ⟨ha1, ha2⟩ := ha
  obtain ⟨hw1, hw2⟩ := hw
  have HII := Lib.hid hi
  have hw6 : what % 6 = 0 ∨ what % 6 = 1 ∨ what % 6 = 2 ∨ what % 6 = 3 ∨ what % 6 = 4 ∨ what % 6 = 5 := by omega
  have HW6 := Lib.hid hw6
  clear h hn HZ gF hF hmF lF h0 him hi hok hmk hw6
  go_enter Try.func5, Try.ntmps5
  go_wp2_with fail
  refine (M1.out _ ((Below.refl _ _).alloc (Nat.le_refl _) _)).mono ?_
  rintro e w5 ⟨AF, cF, rfl, hnF, hcF, hmF, hb⟩
  rw [HMF.out] at hcF ⊢
  have NF := Lib.hid hnF
  have HB5 := Lib.hid (below_box hb)
  have HX5 := Lib.hid (box5 hb)
  clear hb hnF hcF hmF
  go_wp2_with fail
  refine (lawCopy AF m cF F w5 HMF.out (by have := HLF.out; omega) (fun x hx => by obtain ⟨j, hj, rfl⟩ := List.getElem_of_mem hx; exact may_arity GF.out.1 (List.getElem?_eq_getElem hj)) NF.out).mono ?_
  rintro e w6 ⟨v, σ, rfl, hO, hσ, hKO, hSep, hb⟩
  have hsl := Lib.hid (show σ.length = m by rw [← HMF.out, ← hσ, List.length_map])
  obtain ⟨g, cC, rfl, hg1, hg2, hg3, hg4⟩ := hO.form (by rw [hsl.out]; have := HIM.out; omega)
  rw [hsl.out] at hO hg3 hKO ⊢
  obtain ⟨s, hs⟩ : ∃ s, σ[i]? = some s := ⟨_, List.getElem?_eq_getElem (by rw [hsl.out]; exact HIM.out)⟩
  obtain ⟨nd1, K1, c1⟩ := s
  have hAt := Lib.hid ((show OwnNodes _ w6 w5.heap.size (.slice (some ⟨g, 0, none⟩) σ.length cC) σ by rw [hsl.out]; exact hO).at hs)
  have hOa := Lib.hid (hO.mono (S' := Any) fun _ _ _ => trivial)
  have hOO := Lib.hid hO
  have hKS := Lib.hid (And.intro hKO hSep)
  have HNK := Lib.hid (hO.2 _ (List.mem_of_getElem? hs)).1
  have hcC := Lib.hid hg3
  have HB6 := Lib.hid (HB5.out.trans (hb.mono HB5.out.size))
  have HOK6 := Lib.hid (show NodeOk w6 nd K cK by
    obtain ⟨k1, k2, k3, k4, k5, k6, k7⟩ := HOK.out
    exact ⟨k1, k2, k3, k4, k5.below HB6.out, k6, k7⟩)
  have hsN := Lib.hid (show ∀ z, (Value.slice (some ⟨g, 0, none⟩) m cC).ownBlock = some z → w.heap.size ≤ z from fun z hz => by simp [Value.ownBlock] at hz; have := HB5.out.size; omega)
  have hKn := Lib.hid (show ∀ a, K = some a → 0 < nd.kids.length → a.block < w.heap.size from fun a ha h0 => by
    obtain ⟨b, off, e2, hc⟩ := HOK.out.2.2.2.2.1.cell h0
    rw [ha] at e2
    injection e2 with e2
    subst e2
    exact World.block_lt_of_cell? w _ (hc 0 h0))
  have hg1 := Lib.hid hg1
  have hsx := Lib.hid hs
  clear hs
  have hs := hsx
  have x0 := below_cell hb HX5.out.1
  have x1 := below_cell hb HX5.out.2.1
  have x2 := below_cell hb HX5.out.2.2.1
  have x3 := below_cell hb HX5.out.2.2.2.1
  have x4 := below_cell hb HX5.out.2.2.2.2
  have hst := HII.out
  clear hO hKO hSep hb hσ hg2 hg3 hg4
  rcases HW6.out with hq | hq | hq | hq | hq | hq
  · -- 0
    have hset := hOa.out.set (f := 0) (u := .int .i64 nd.kind) (s' := ({ nd1 with kind := nd.kind }, K1, c1)) hs.out (by omega) rfl (by
      obtain ⟨k1, k2, k3, k4, k5, k6, k7⟩ := HNK.out
      obtain ⟨o1, o2, o3, o4, -⟩ := HOK6.out
      exact ⟨⟨o1, k2, k3, k4, k5, k6, k7⟩, (hOa.out.2 _ (List.mem_of_getElem? hs.out)).2⟩)
    rw [Nat.add_zero] at hset
    have hN7 := hset.any
    have hL : ((σ.set i ({ nd1 with kind := nd.kind }, K1, c1)).map (·.1)).length = m := by rw [List.length_map, List.length_set, hsl.out]
    have hat := hAt.out 0 (by omega)
    have hc0 := hat.1
    have hf0 := hat.2
    simp only [cellsS, List.getElem?_cons_succ, List.getElem?_cons_zero, Nat.add_zero] at hc0 hf0
    have T := Lib.hid (lawTells (some ⟨g, 0, none⟩) m cC (i : Int) _ _ hL (by have := HLF.out; omega) hcC.out hN7 (by unfold small64; omega))
    have B7 := Lib.hid (HB6.out.setCell (p := ⟨g, i * 5, none⟩) (Nat.le_trans HB5.out.size hg1.out) (.int .i64 nd.kind))
    clear hset hN7 hL hat
    go_wp2_with (first
      | (go_at_call 10; refine T.out.mono ?_; rintro e w8 ⟨rfl, hb8⟩)
      | (go_at_call 9; refine (HA.out _).mono ?_; rintro e w9 ⟨rfl, hb9⟩))
    go_ret
    exact ⟨rfl, (B7.out.trans (hb8.mono B7.out.size)).trans (hb9.mono (Nat.le_trans B7.out.size hb8.size))⟩
  · -- 1
    have hset := hOa.out.set (f := 1) (u := .string nd.name) (s' := ({ nd1 with name := nd.name }, K1, c1)) hs.out (by omega) rfl (by
      obtain ⟨k1, k2, k3, k4, k5, k6, k7⟩ := HNK.out
      obtain ⟨o1, o2, o3, o4, -⟩ := HOK6.out
      exact ⟨⟨k1, k2, k3, o4, k5, k6, k7⟩, (hOa.out.2 _ (List.mem_of_getElem? hs.out)).2⟩)
    have hN7 := hset.any
    have hL : ((σ.set i ({ nd1 with name := nd.name }, K1, c1)).map (·.1)).length = m := by rw [List.length_map, List.length_set, hsl.out]
    have hat := hAt.out 1 (by omega)
    have hc0 := hat.1
    have hf0 := hat.2
    simp only [cellsS, List.getElem?_cons_succ, List.getElem?_cons_zero, Nat.add_zero] at hc0 hf0
    have T := Lib.hid (lawTells (some ⟨g, 0, none⟩) m cC (i : Int) _ _ hL (by have := HLF.out; omega) hcC.out hN7 (by unfold small64; omega))
    have B7 := Lib.hid (HB6.out.setCell (p := ⟨g, i * 5 + 1, none⟩) (Nat.le_trans HB5.out.size hg1.out) (.string nd.name))
    clear hset hN7 hL hat
    go_wp2_with (first
      | (go_at_call 10; refine T.out.mono ?_; rintro e w8 ⟨rfl, hb8⟩)
      | (go_at_call 9; refine (HA.out _).mono ?_; rintro e w9 ⟨rfl, hb9⟩))
    go_ret
    exact ⟨rfl, (B7.out.trans (hb8.mono B7.out.size)).trans (hb9.mono (Nat.le_trans B7.out.size hb8.size))⟩
  · -- 2
    have hset0 := hOa.out.set (f := 2) (u := .int .i64 nd.lo) (s' := ({ nd1 with lo := nd.lo }, K1, c1)) hs.out (by omega) rfl (by
      obtain ⟨k1, k2, k3, k4, k5, k6, k7⟩ := HNK.out
      obtain ⟨o1, o2, o3, o4, -⟩ := HOK6.out
      exact ⟨⟨k1, o2, k3, k4, k5, k6, k7⟩, (hOa.out.2 _ (List.mem_of_getElem? hs.out)).2⟩)
    have hs1 : (σ.set i ({ nd1 with lo := nd.lo }, K1, c1))[i]? = some ({ nd1 with lo := nd.lo }, K1, c1) := by rw [List.getElem?_set_self (by rw [hsl.out]; exact HIM.out)]
    have hset := hset0.set (f := 3) (u := .int .i64 nd.hi) (s' := ({ nd1 with lo := nd.lo, hi := nd.hi }, K1, c1)) hs1 (by omega) rfl (by
      obtain ⟨⟨k1, k2, k3, k4, k5, k6, k7⟩, k8⟩ := hset0.2 _ (List.mem_of_getElem? hs1)
      obtain ⟨o1, o2, o3, o4, -⟩ := HOK6.out
      exact ⟨⟨k1, k2, o3, k4, k5, k6, k7⟩, k8⟩)
    have hN7 := hset.any
    have hL : (((σ.set i ({ nd1 with lo := nd.lo }, K1, c1)).set i ({ nd1 with lo := nd.lo, hi := nd.hi }, K1, c1)).map (·.1)).length = m := by rw [List.length_map, List.length_set, List.length_set, hsl.out]
    have hat := hAt.out 2 (by omega)
    have hat3 := hAt.out 3 (by omega)
    have hc0 := hat.1
    have hf0 := hat.2
    have hc3 := hat3.1
    have hf3 := hat3.2
    simp only [cellsS, List.getElem?_cons_succ, List.getElem?_cons_zero] at hc0 hf0 hc3 hf3
    have T := Lib.hid (lawTells (some ⟨g, 0, none⟩) m cC (i : Int) _ _ hL (by have := HLF.out; omega) hcC.out hN7 (by unfold small64; omega))
    have B7 := Lib.hid ((HB6.out.setCell (p := ⟨g, i * 5 + 2, none⟩) (Nat.le_trans HB5.out.size hg1.out) (.int .i64 nd.lo)).setCell (p := ⟨g, i * 5 + 3, none⟩) (Nat.le_trans HB5.out.size hg1.out) (.int .i64 nd.hi))
    clear hset0 hs1 hset hN7 hL hat hat3
    go_wp2_with (first
      | (go_at_call 10; refine T.out.mono ?_; rintro e w8 ⟨rfl, hb8⟩)
      | (go_at_call 9; refine (HA.out _).mono ?_; rintro e w9 ⟨rfl, hb9⟩))
    go_ret
    exact ⟨rfl, (B7.out.trans (hb8.mono B7.out.size)).trans (hb9.mono (Nat.le_trans B7.out.size hb8.size))⟩
  · -- 3
    have hset := hOa.out.set (f := 4) (u := .slice K mk cK) (s' := ({ nd1 with kids := nd.kids }, K, cK)) hs.out (by omega) (by rw [← HMK.out]; rfl) (by
      obtain ⟨k1, k2, k3, k4, -⟩ := HNK.out
      obtain ⟨o1, o2, o3, o4, o5, o6, o7⟩ := HOK6.out
      exact ⟨⟨k1, k2, k3, k4, o5, o6, o7⟩, fun a ha h0 => ⟨trivial, fun e => by have := hKn.out a ha h0; have := hsN.out a.block e.symm; omega⟩⟩)
    have hN7 := hset.any
    have hL : ((σ.set i ({ nd1 with kids := nd.kids }, K, cK)).map (·.1)).length = m := by rw [List.length_map, List.length_set, hsl.out]
    have hat := hAt.out 4 (by omega)
    have hc0 := hat.1
    have hf0 := hat.2
    simp only [cellsS, List.getElem?_cons_succ, List.getElem?_cons_zero, Nat.add_zero] at hc0 hf0
    have T := Lib.hid (lawTells (some ⟨g, 0, none⟩) m cC (i : Int) _ _ hL (by have := HLF.out; omega) hcC.out hN7 (by unfold small64; omega))
    have B7 := Lib.hid (HB6.out.setCell (p := ⟨g, i * 5 + 4, none⟩) (Nat.le_trans HB5.out.size hg1.out) (.slice K mk cK))
    clear hset hN7 hL hat
    go_wp2_with (first
      | (go_at_call 10; refine T.out.mono ?_; rintro e w8 ⟨rfl, hb8⟩)
      | (go_at_call 9; refine (HA.out _).mono ?_; rintro e w9 ⟨rfl, hb9⟩))
    go_ret
    exact ⟨rfl, (B7.out.trans (hb8.mono B7.out.size)).trans (hb9.mono (Nat.le_trans B7.out.size hb8.size))⟩
  · -- 4
    have hat := hAt.out 4 (by omega)
    have hc0 := hat.1
    simp only [cellsS, List.getElem?_cons_succ, List.getElem?_cons_zero] at hc0
    by_cases hk0 : 0 < nd1.kids.length
    · obtain ⟨hkr, -⟩ := hKS.out.1 _ (List.mem_of_getElem? hs.out)
      obtain ⟨gk, ck, ek, hgk1, -⟩ := own_form hkr hk0
      injection ek with ek1 _ ek2
      subst ek1; subst ek2
      have hx : (Lit.int .i64 (at_ / 2)).wf = true := WalkArith.wf_i64 (by omega)
      have hset := kid_set hOO.out hKS.out.1 hKS.out.2 hs.out hk0 hx
      have hN7 := hset.any
      have hL : ((σ.set i ({ nd1 with kids := nd1.kids.set 0 (at_ / 2) }, some ⟨gk, 0, none⟩, c1)).map (·.1)).length = m := by rw [List.length_map, List.length_set, hsl.out]
      have hc1 := World.ownsRow.cellAt (g := gk) hkr 0 (show 0 < nd1.kids.length * 1 by omega)
      have hf1 := hkr.frozenAt 0
      obtain ⟨kl, hkl⟩ : ∃ kl, nd1.kids.length = kl := ⟨_, rfl⟩
      obtain ⟨y, hy⟩ : ∃ y, nd1.kids[0]? = some y := ⟨_, List.getElem?_eq_getElem hk0⟩
      rw [List.getElem?_map, hy, Option.map_some] at hc1
      rw [hkl] at hc0 hk0
      have hk0' : (0 : Int) < (kl : Int) := by omega
      have T := Lib.hid (lawTells (some ⟨g, 0, none⟩) m cC (i : Int) _ _ hL (by have := HLF.out; omega) hcC.out hN7 (by unfold small64; omega))
      have B7 := Lib.hid (HB6.out.setCell (p := ⟨gk, 0, none⟩) (Nat.le_trans HB5.out.size hgk1) (.int .i64 (at_ / 2)))
      clear hset hN7 hL hat hkr hx hgk1 hkl hy
      go_wp2_with (first
        | (go_at_call 10; refine T.out.mono ?_; rintro e w8 ⟨rfl, hb8⟩)
        | (go_at_call 9; refine (HA.out _).mono ?_; rintro e w9 ⟨rfl, hb9⟩))
      go_ret
      exact ⟨rfl, (B7.out.trans (hb8.mono B7.out.size)).trans (hb9.mono (Nat.le_trans B7.out.size hb8.size))⟩
    · have hk1 : nd1.kids.length = 0 := by omega
      rw [hk1] at hc0
      have hL : (σ.map (·.1)).length = m := by rw [List.length_map, hsl.out]
      have T := Lib.hid (lawTells (some ⟨g, 0, none⟩) m cC (i : Int) _ _ hL (by have := HLF.out; omega) hcC.out hOa.out.any (by unfold small64; omega))
      have B7 := Lib.hid HB6.out
      clear hL hat hk1 hk0
      go_wp2_with (first
        | (go_at_call 10; refine T.out.mono ?_; rintro e w8 ⟨rfl, hb8⟩)
        | (go_at_call 9; refine (HA.out _).mono ?_; rintro e w9 ⟨rfl, hb9⟩))
      go_ret
      exact ⟨rfl, (B7.out.trans (hb8.mono B7.out.size)).trans (hb9.mono (Nat.le_trans B7.out.size hb8.size))⟩
  · -- 5
    have hN7 := hOa.out.any.take i
    have hL : ((σ.map (·.1)).take i).length = i := by rw [List.length_take, List.length_map, hsl.out]; have := HIM.out; omega
    have T := Lib.hid (lawTells (some ⟨g, 0, none⟩) i cC (i : Int) _ _ hL (by have := HLF.out; omega) (Nat.le_trans (Nat.le_of_lt HIM.out) hcC.out) hN7 (by unfold small64; omega))
    have B7 := Lib.hid HB6.out
    have hic : (i : Int) ≤ (cC : Int) := by have := HIM.out; have := hcC.out; omega
    clear hN7 hL
    go_wp2_with (first
      | (go_at_call 10; refine T.out.mono ?_; rintro e w8 ⟨rfl, hb8⟩)
      | (go_at_call 9; refine (HA.out _).mono ?_; rintro e w9 ⟨rfl, hb9⟩))
    go_ret
    exact ⟨rfl, (B7.out.trans (hb8.mono B7.out.size)).trans (hb9.mono (Nat.le_trans B7.out.size hb8.size))⟩
end Go.Proofs.Ytmahbocelckmcaa.Tree
