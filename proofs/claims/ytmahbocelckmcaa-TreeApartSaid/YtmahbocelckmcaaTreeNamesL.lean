/-
  The walk of the landed tree's Names. By an AI agent.
-/
import Derived.Test.YtmahbocelckmcaaTreeNames
import Derived.Test.YtmahbocelckmcaaTreePartL
namespace Go.Proofs.Ytmahbocelckmcaa.Tree
open Go.RowKit Go.Sort Go.Lib Go.Proofs.Ytmahbocelckmcaa.Ints

theorem own_cut {w : World} {base : Nat} {e : TypeId} {D : Option Addr} {n c f : Nat} {xs : List Value} (h : w.ownsRow base e 1 (.slice D n c) n xs) (hf : f ≤ n) : w.ownsRow base e 1 (.slice D f c) f (xs.take f) := by
  have hl := h.1
  rcases h.2 with ⟨h1, h2⟩ | ⟨g, cap, cur, h1, h2⟩
  · injection h1 with h1 h3 h4
    subst h1; subst h4
    have : f = 0 := by omega
    subst this
    exact World.ownsRow_nil _ _ _ _
  · injection h1 with h1 h3 h4
    subst h1; subst h4
    obtain ⟨h5, h6, h7, h8, h9, h10⟩ := h2
    refine ⟨by simp only [List.length_take, Nat.mul_one] at hl ⊢; omega, .inr ⟨g, c, cur, rfl, h5, h6, by omega, h8, h9, ?_⟩⟩
    rw [← h10]
    simp only [Nat.mul_one]
    rw [List.take_take]
    congr 1
    omega
/-- slices.Compact, at a row of one's own. -/
theorem compactOwn {w : World} {base : Nat} {e : TypeId} {g c n : Nat} {ts : List (List UInt8)} (h : w.ownsRow base e 1 (.slice (some ⟨g, 0, none⟩) n c) n (ts.map encStr)) (hn : n ≤ 1048576) :
    Calls Try.prog 47 #[.slice (some ⟨g, 0, none⟩) n c] w fun e' w' => e' = .returned (.slice (some ⟨g, 0, none⟩) (compact ts).length c) ∧ w'.ownsRow base e 1 (.slice (some ⟨g, 0, none⟩) (compact ts).length c) (compact ts).length ((compact ts).map encStr) ∧ w.grownBy w' (some g) := by
  have hl : ts.length = n := by simpa using h.1
  subst hl
  rcases h.2 with ⟨h1, -⟩ | ⟨g', cap, cur, h1, hbase, hb, h2, h3, h4, h5⟩
  · injection h1 with h1; cases h1
  · injection h1 with h1 _ h6
    injection h1 with h1
    injection h1 with h1
    subst h1; subst h6
    rw [Nat.mul_one] at h5
    have hc := compact_length_le ts
    refine (Try.slices_Compact_string g 0 c ts w (holds_of_block hb h5) (by omega) h2).mono fun e' w' ⟨he, q, hw⟩ => ⟨he, ?_, ?_⟩
    · have hts : (compact ts ++ List.replicate (ts.length - (compact ts).length) []).length = ts.length := by
        rw [List.length_append, List.length_replicate]; omega
      have ho := ownsRow_sorted (n := q) (os := #[]) (w := w) (e := e) hts hbase hb h2 h3 h4
      rw [grow_empty, ← hw] at ho
      have := own_cut ho hc
      rw [← List.map_take, List.take_left'  rfl] at this
      exact this
    · have hg := grownBy_sorted (w := w) (g := g) (n := q) (os := #[]) (compact ts ++ List.replicate (ts.length - (compact ts).length) []).toArray
      rw [grow_empty, ← hw] at hg
      exact hg

set_option maxHeartbeats 8000000 in
set_option maxRecDepth 100000 in
theorem landNames (A : Option Addr) (n c : Nat) (l : List Nd) (w : World) (hl : l.length = n) (hn : n ≤ 1048576) (h : Nodes Any w A l) :
    Calls Try.prog 22 #[.slice A n c] w (GotStrs w (namesL l)) := by
  obtain ⟨i0, hi, hz0, hz1, hz2⟩ := info_parts infoStr
  have hni : (n : Int) ≤ 1048576 := by omega
  have hM := fun W (hb : Below w.heap.size w W) => landMay A n c l W hl hn (h.below hb)
  have HL := Lib.hid hl
  have HD := Lib.hid h
  have HN := Lib.hid hn
  clear hl hn h
  rcases hm : mayL l
  · have HR := Lib.hid (show namesL l = [] by unfold namesL; rw [hm]; rfl)
    rw [hm] at hM
    have HM := Lib.hid hM
    clear hM hm
    go_enter Try.func22, Try.ntmps22
    go_wp2_with (go_at_call 27; refine (HM.out _ (Below.refl _ _)).mono ?_; rintro e w1 ⟨rfl, hb1⟩)
    go_ret
    rw [HR.out]
    exact GotStrs.none0 hb1
  · have HR := Lib.hid (show namesL l = compact ((allNames l).mergeSort (fun x y => decide (x ≤ y))) by unfold namesL; rw [if_pos hm, names_compact])
    have HMY := Lib.hid hm
    rw [hm] at hM
    have HM := Lib.hid hM
    clear hM hm
    go_enter Try.func22, Try.ntmps22
    go_wp2_with (go_at_call 27; refine (HM.out _ (Below.refl _ _)).mono ?_; rintro e w1 ⟨rfl, hb1⟩)
    have HB1 := Lib.hid hb1
    clear hb1
    go_loopw [3, 12] (fun v i wr => ∃ k : Nat, k ≤ n ∧ i = .int .i64 k ∧ wr.ownsRow w.heap.size 9 1 v (allNames (l.take k)).length ((allNames (l.take k)).map encStr) ∧ Below w.heap.size w wr) (fun _ i _ => n - (intOf i).toNat)
    case atStart => exact ⟨0, Nat.zero_le _, rfl, by rw [List.take_zero]; exact World.ownsRow_made w1 #[] 0 HB1.out.size (by decide) rfl, HB1.out.alloc HB1.out.size _⟩
    case round =>
      obtain ⟨k, hk, rfl, hrow, hB⟩ := hrel
      have hol := all_len l k
      obtain ⟨out, ho⟩ : ∃ out, allNames (l.take k) = out := ⟨_, rfl⟩
      rw [ho] at hrow hol
      obtain ⟨q, hq⟩ : ∃ q, out.length = q := ⟨_, rfl⟩
      rw [hq] at hrow hol
      obtain ⟨V, cV, rfl, -, -, -, -⟩ := own_slice hrow
      have HO := Lib.hid ho
      have HQ := Lib.hid hq
      have HRW := Lib.hid hrow
      have HB := Lib.hid hB
      clear hrow hB ho hq
      by_cases hkn : k < n
      · have hkn' : (k : Int) < (n : Int) := by omega
        obtain ⟨b, off, e, hnodes⟩ := (HD.out.below HB.out) (by have := HL.out; omega)
        obtain ⟨nd, hnd⟩ : ∃ nd, l[k]? = some nd := ⟨_, List.getElem?_eq_getElem (by have := HL.out; omega)⟩
        obtain ⟨x0, x1, x2, x3, s0, s2, s3, s1, K, cK, x4, hK, hKc, hcK, -, -⟩ := hnodes k nd hnd
        rw [Nat.mul_comm 5 k] at x0 x1 x2 x3 x4
        have HNX := Lib.hid (all_next hnd)
        have HCL := Lib.hid (fun W => cloneStr nd.name W s1 (by have := may_name HMY.out hnd; omega))
        subst e
        clear hnd hnodes hK s0 s1 s2 s3
        by_cases h3 : nd.kind = 3
        · have h3' : (nd.kind == 3) = true := by rw [h3]; rfl
          have HP := Lib.hid (show allNames (l.take (k + 1)) = out ++ [nd.name.data.toList] by rw [HNX.out, HO.out, if_pos h3])
          have HQL := Lib.hid (show q ≤ 1048576 by omega)
          clear h3
          go_wp2_with (first
            | (go_at_call 42; refine (HCL.out _).mono ?_; rintro e w2 ⟨rfl, hb2⟩; have HB2 := Lib.hid (below_box hb2); have HR2 := Lib.hid (below_row HRW.out HB2.out); have HS2 := Lib.hid (Nat.le_trans HB.out.size HB2.out.size); clear hb2)
            | (at_builtin; go_loud (refine wpList_append_one rfl (.tmp 19) (.tmp 23) 44 rfl w.heap.size 9 i0 _ 16 Try.underlying44 hi hz0 hz1 hz2 rfl (by decide) _ q _ (by rfl) HR2.out (.string nd.name) rfl _ _ rfl w2.heap.size rfl (by rfl) HQL.out HS2.out ?_; intro v3 w3 hown3 hgr3 _)))
          go_roundw
          case rel => exact ⟨k + 1, by omega, by go_num, by
            rw [HP.out, List.length_append, HQ.out, List.map_append]
            rw [enc_name] at hown3
            exact hown3, (((HB.out.trans (HB2.out.mono HB.out.size)).alloc HS2.out _).grown hgr3 (le_alloc HS2.out) (fun z hz => (HRW.out.lt z hz).1))⟩
          case measure => simp [intOf]; omega
        · have h3' : (nd.kind == 3) = false := beq_eq_false_iff_ne.2 h3
          have HP := Lib.hid (show allNames (l.take (k + 1)) = out by rw [HNX.out, HO.out, if_neg h3, List.append_nil])
          clear h3
          go_wp2
          go_roundw
          case rel => exact ⟨k + 1, by omega, by go_num, by rw [HP.out, HQ.out]; exact HRW.out.alloc _, HB.out.alloc HB.out.size _⟩
          case measure => simp [intOf]; omega
      · have hge : decide ((k : Int) < (n : Int)) = false := by simp; omega
        have hkl : l.take k = l := List.take_of_length_le (by have := HL.out; omega)
        have HO2 := Lib.hid (show allNames l = out by rw [← hkl]; exact HO.out)
        clear hkl
        by_cases hq0 : q = 0
        · have ho0 : out = [] := List.eq_nil_of_length_eq_zero (by rw [HQ.out]; exact hq0)
          have HE := Lib.hid (show namesL l = [] by rw [HR.out, HO2.out, ho0]; simp [compact, compactUpTo])
          have HS := Lib.hid (fun W => Try.slices_Sort_string_none V cV W)
          have HC := Lib.hid (fun W => Try.slices_Compact_string_empty V cV W)
          have hV := (strs_own HRW.out).2
          subst hq0
          have HV := Lib.hid hV
          clear ho0 hV
          go_wp2_with (first
            | (go_at_call 46; refine (HS.out _).mono ?_; rintro e w' ⟨rfl, rfl⟩)
            | (go_at_call 47; refine (HC.out _).mono ?_; rintro e w' ⟨rfl, rfl⟩))
          go_ret
          rw [HE.out]
          exact ⟨_, _, rfl, fun h => by simp at h, HV.out.2.1, HV.out.2.2, HB.out⟩
        · obtain ⟨ts, hts⟩ : ∃ ts, out.mergeSort (fun x y => decide (x ≤ y)) = ts := ⟨_, rfl⟩
          have htl : ts.length = out.length := by rw [← hts]; simp
          have HE := Lib.hid (show namesL l = compact ts by rw [HR.out, HO2.out, hts])
          have hrow := HRW.out
          rcases hrow.2 with ⟨-, h0⟩ | ⟨g, cap, cur, eV, hbase, hb, h1, h2, h3, h4⟩
          · exact absurd h0 hq0
          · injection eV with eV _ eC
            subst eV; subst eC
            rw [Nat.mul_one] at h4
            have hS := Try.slices_Sort_string g 0 cV out wr (holds_of_block hb (by rw [HQ.out]; exact h4)) (Array.getElem?_eq_some_iff.1 hb).1 (by rw [HQ.out]; have := HN.out; omega)
            rw [hts, HQ.out] at hS
            have HS := Lib.hid hS
            have HOW := Lib.hid (fun (m : Nat) (os : Array Obj) => ownsRow_sorted (n := m) (os := os) htl hbase hb (by rw [HQ.out]; exact h1) h2 h3)
            rw [HQ.out] at HOW
            have HGR := Lib.hid (fun (m : Nat) (os : Array Obj) => grownBy_sorted (w := wr) (g := g) (n := m) (os := os) ts.toArray)
            have HC := Lib.hid (fun (m : Nat) (os : Array Obj) => compactOwn (HOW.out m os) (by have := HN.out; omega))
            have HBG := Lib.hid hbase
            clear hrow hb h1 h2 h3 h4 hS hts htl hbase
            go_wp2_with (first
              | (go_at_call 46; refine HS.out.mono ?_; rintro e w' ⟨rfl, m, os, rfl⟩)
              | (go_at_call 47; refine (HC.out _ _).mono ?_; rintro e w2 ⟨rfl, ho2, hg2⟩; have HO3 := Lib.hid ho2; have HG3 := Lib.hid hg2; clear ho2 hg2))
            go_ret
            obtain ⟨k1, k2, k3, k4⟩ := strs_own HO3.out
            rw [HE.out]
            exact ⟨_, _, rfl, k2, k3, k4, (HB.out.grown (HGR.out _ _) HB.out.size (fun z hz => by injection hz with hz; have := HBG.out; omega)).grown HG3.out (Nat.le_trans HB.out.size (HGR.out _ _).size) (fun z hz => by injection hz with hz; have := HBG.out; omega)⟩
end Go.Proofs.Ytmahbocelckmcaa.Tree
