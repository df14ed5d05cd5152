/-
  The laws' own formula, in memory. By an AI agent.
  The walk of the laws' awake. By an AI agent.
  The part of IvalMay that speaks of functions which not every seat has. By an AI agent.
  The part of IvalText that speaks of functions which not every seat has. By an AI agent.
  The part of TreeBase that speaks of functions which not every seat has. By an AI agent.
-/
import Derived.Test.YtmjfopggehopjaaDoorGShowTells28
import Derived.Test.YtmjfopggehopjaaDoorGShowTells21
import Derived.Test.YtmjfopggehopjaaDoorGShowTells24
import Derived.Test.YtmjfopggehopjaaDoorGShowTells3
import Derived.Test.YtmjfopggehopjaaDoorGShowTells9
import Derived.Test.YtmjfopggehopjaaDoorGShowTells5
namespace Go.Proofs.YtmjfopggehopjaaDoor.Tree
open Go.RowKit Go.Proofs.YtmjfopggehopjaaDoor.Ints

def awakeL : List Nd := [⟨3, { data := #[112] }, 0, 0, []⟩, ⟨4, { data := #[] }, 0, 0, [0]⟩]
theorem awake_may : mayL awakeL = true := by decide
theorem awake_nodes (w : World) (T1 T2 : TypeId) : Nodes Any ((w.alloc (.cells #[.int .i64 0] T1)).alloc (.cells #[.int .i64 3, .string { data := #[112] }, .int .i64 0, .int .i64 0, .slice none 0 0, .int .i64 4, .string { data := #[] }, .int .i64 0, .int .i64 0, .slice (some ⟨w.heap.size, 0, none⟩) 1 1] T2)) (some ⟨w.heap.size + 1, 0, none⟩) awakeL := by
  intro _
  refine ⟨_, 0, rfl, fun j n hj => ?_⟩
  have hc : ∀ (o : Nat) (u : Value), (#[.int .i64 3, .string { data := #[112] }, .int .i64 0, .int .i64 0, .slice none 0 0, .int .i64 4, .string { data := #[] }, .int .i64 0, .int .i64 0, .slice (some ⟨w.heap.size, 0, none⟩) 1 1] : Array Value)[o]? = some u →
      ((w.alloc (.cells #[.int .i64 0] T1)).alloc (.cells #[.int .i64 3, .string { data := #[112] }, .int .i64 0, .int .i64 0, .slice none 0 0, .int .i64 4, .string { data := #[] }, .int .i64 0, .int .i64 0, .slice (some ⟨w.heap.size, 0, none⟩) 1 1] T2)).cell? ⟨w.heap.size + 1, o, none⟩ = some u := fun o u hu => by
    rw [cell_of_row _ (w.heap.size + 1) o _ _ (0, 0) (new_at2 w _ _)]; exact hu
  have hs : ∀ x : Int, (x = 0 ∨ x = 3 ∨ x = 4) → small64 x := fun x hx => by unfold small64; omega
  match j, hj with
  | 0, hj =>
    simp only [awakeL, List.getElem?_cons_zero, Option.some.injEq] at hj
    subst hj
    exact ⟨hc 0 _ rfl, hc 1 _ rfl, hc 2 _ rfl, hc 3 _ rfl, hs _ (by simp), hs _ (by simp), hs _ (by simp), by decide, none, 0, hc 4 _ rfl, Rd.nil _ _ _, Nat.le_refl _, by decide, trivial, fun _ _ _ => trivial⟩
  | 1, hj =>
    simp only [awakeL, List.getElem?_cons_succ, List.getElem?_cons_zero, Option.some.injEq] at hj
    subst hj
    refine ⟨hc 5 _ rfl, hc 6 _ rfl, hc 7 _ rfl, hc 8 _ rfl, hs _ (by simp), hs _ (by simp), hs _ (by simp), by decide, some ⟨w.heap.size, 0, none⟩, 1, hc 9 _ rfl, ?_, Nat.le_refl _, by decide, trivial, fun _ _ _ => trivial⟩
    exact (Rd.lit w T1 (0, 0) [0] (fun z hz => by rw [List.mem_singleton.1 hz]; rfl)).alloc _
  | j + 2, hj => simp [awakeL] at hj

end Go.Proofs.YtmjfopggehopjaaDoor.Tree

namespace Go.Proofs.YtmjfopggehopjaaDoor.Show
open Go.RowKit Go.Proofs.YtmjfopggehopjaaDoor.Tree Go.Proofs.YtmjfopggehopjaaDoor.Itoa Go.Proofs.YtmjfopggehopjaaDoor.Ints

theorem awake_text : textL awakeL = [33, 112] := by decide
theorem awake_nest : nestL awakeL = 1 := by decide
set_option maxHeartbeats 4000000 in
set_option maxRecDepth 100000 in
theorem awake (w : World) (hT : Tabs w) :
    Calls Tryd.prog 4 #[] w fun e w' => e = .returned (.bool true) ∧ Below w.heap.size w w' := by
  have HN0 := Lib.hid (awake_nodes w 3 34)
  have HT := Lib.hid (fun W (hb : Below w.heap.size w W) => hT.later hb)
  clear hT
  go_enter Tryd.func4, Tryd.ntmps4
  go_wp2_with fail
  have HB0 := Lib.hid (show Below w.heap.size w ((w.alloc (.cells #[.int .i64 0] 3)).alloc (.cells #[.int .i64 3, .string { data := #[112] }, .int .i64 0, .int .i64 0, .slice none 0 0, .int .i64 4, .string { data := #[] }, .int .i64 0, .int .i64 0, .slice (some ⟨w.heap.size, 0, none⟩) 1 1] 34)) from ((Below.refl _ _).alloc (Nat.le_refl _) _).alloc (le_alloc (Nat.le_refl _)) _)
  generalize (w.alloc (.cells #[.int .i64 0] 3)).alloc (.cells #[.int .i64 3, .string { data := #[112] }, .int .i64 0, .int .i64 0, .slice none 0 0, .int .i64 4, .string { data := #[] }, .int .i64 0, .int .i64 0, .slice (some ⟨w.heap.size, 0, none⟩) 1 1] 34) = W0 at HN0 HB0 ⊢
  have h1 := landText (some ⟨w.heap.size + 1, 0, none⟩) 2 2 awakeL W0 rfl (by decide) HN0.out (HT.out _ HB0.out)
  rw [awake_text, show Lex.bytes [33, 112] = { data := #[33, 112] } from rfl] at h1
  refine h1.mono ?_
  rintro e w1 ⟨rfl, hb1⟩
  clear h1
  have HB1 := Lib.hid hb1
  clear hb1
  go_wp2_with fail
  have h1 := landNest (some ⟨w.heap.size + 1, 0, none⟩) 2 2 awakeL w1 rfl (by decide) (HN0.out.below HB1.out)
  rw [awake_nest] at h1
  refine h1.mono ?_
  rintro e w2 ⟨rfl, hb2⟩
  clear h1
  have HB2 := Lib.hid (HB1.out.trans (hb2.mono HB1.out.size))
  clear hb2
  go_wp2_with fail
  go_ret
  exact ⟨rfl, HB0.out.trans (HB2.out.mono HB0.out.size)⟩
end Go.Proofs.YtmjfopggehopjaaDoor.Show

namespace Go.Proofs.YtmjfopggehopjaaDoor.Ival
open Go.RowKit

theorem refMay (lo hi : Int) (w : World) :
    Calls Tryd.prog 33 #[span lo hi] w fun e w' => e = .returned (.bool (mayS lo hi)) ∧ Below w.heap.size w w' := by
  rcases may_cases lo hi with ⟨h1, h⟩ | ⟨h1, h2, h⟩ | ⟨h1, h2, h3, h⟩ | ⟨h1, h2, h3, h4, h⟩ | ⟨h1, h2, h3, h4, h5, h⟩ | ⟨h1, h2, h3, h4, h5, h⟩
  all_goals
    rw [h]
    clear h
    go_enter Tryd.func33, Tryd.ntmps33
    go_wp2
    go_ret
    exact ⟨rfl, (Below.refl _ _).alloc (Nat.le_refl _) _⟩

end Go.Proofs.YtmjfopggehopjaaDoor.Ival

namespace Go.Proofs.YtmjfopggehopjaaDoor.Ival
open Go.RowKit Go.Proofs.YtmjfopggehopjaaDoor.Itoa

set_option maxHeartbeats 4000000 in
set_option maxRecDepth 100000 in
theorem refText (lo hi : Int) (w : World) (hT : Tab10 w) :
    Calls Tryd.prog 36 #[span lo hi] w fun e w' => e = .returned (.string (textS lo hi)) ∧ Below w.heap.size w w' := by
  have hm := fun W => refMay lo hi W
  unfold textS
  rcases may_ways lo hi with h | ⟨h, h1, h2, h3⟩ | ⟨h, h1, h0, h2, h3, h4⟩
  · rw [h] at hm ⊢
    have HM := Lib.hid hm
    clear hm h
    go_enter Tryd.func36, Tryd.ntmps36
    go_wp2_with (go_at_call 33; refine (HM.out _).mono ?_; rintro e w' ⟨rfl, hb⟩; have hc0 := box0 hb; have hc1 := box1 hb)
    go_ret
    exact ⟨rfl, ((Below.refl _ _).alloc (Nat.le_refl _) _).trans (hb.mono (by simp))⟩
  · subst h1
    rw [h] at hm ⊢
    rw [if_pos rfl, if_pos rfl]
    have HM := Lib.hid hm
    have hd := dec_size lo (by omega)
    have HT := Lib.hid (fun o W (hb : Below (w.alloc o).heap.size (w.alloc o) W) => (hT.later (((Below.refl _ _).alloc (Nat.le_refl _) o).trans (hb.mono (by simp)))))
    clear hm h
    go_enter Tryd.func36, Tryd.ntmps36
    go_wp2_with (first
      | (go_at_call 33; refine (HM.out _).mono ?_; rintro e w' ⟨rfl, hb⟩; have hc0 := box0 hb; have hc1 := box1 hb)
      | (go_at_call 54; refine (itoa lo _ (by omega) (HT.out _ _ hb)).mono ?_; rintro e w2 ⟨rfl, hb2⟩))
    go_ret
    exact ⟨rfl, (((Below.refl _ _).alloc (Nat.le_refl _) _).trans (hb.mono (by simp))).trans (hb2.mono (by have := hb.size; simp at this; omega))⟩
  · rw [h] at hm ⊢
    rw [if_pos rfl, if_neg h0]
    have HM := Lib.hid hm
    have hd := dec_size lo (by omega)
    have hd2 := dec_size hi (by omega)
    have HT := Lib.hid (fun o W (hb : Below (w.alloc o).heap.size (w.alloc o) W) => (hT.later (((Below.refl _ _).alloc (Nat.le_refl _) o).trans (hb.mono (by simp)))))
    clear hm h h0
    go_enter Tryd.func36, Tryd.ntmps36
    go_wp2_with (go_at_call 33; refine (HM.out _).mono ?_; rintro e w' ⟨rfl, hb⟩; have hc0 := box0 hb; have hc1 := box1 hb)
    have hT1 := HT.out _ _ hb
    have hsz : w.heap.size ≤ w'.heap.size := by have := hb.size; simp at this; omega
    have HB := Lib.hid (((Below.refl w.heap.size w).alloc (Nat.le_refl _) _).trans (hb.mono (by simp)))
    clear hb HT HM
    go_region_with (first
      | (go_at_call 54; refine (itoa hi _ (by omega) (by first | exact hT1.later hb2 | exact (hT1.later (below_drewN (Below.refl _ _) _)).later hb2 | exact (show Tab10 _ from hT1).later hb2)).mono ?_; rintro e w3 ⟨rfl, hb3⟩)
      | (go_at_call 54; refine (itoa lo _ (by omega) (by first | exact hT1 | exact hT1.later (below_drewN (Below.refl _ _) _))).mono ?_; rintro e w2 ⟨rfl, hb2⟩; have hc2 := keep_cell hb2 hc0; have hc3 := keep_cell hb2 hc1))
    all_goals
      go_wp2
      go_ret
      exact ⟨rfl, ((HB.out.drew).trans (hb2.mono hsz)).trans (hb3.mono (Nat.le_trans hsz hb2.size))⟩
end Go.Proofs.YtmjfopggehopjaaDoor.Ival

namespace Go.Proofs.YtmjfopggehopjaaDoor.Tree
open Go.RowKit
theorem refFormKind (k : Int) (w : World) :
    Calls Tryd.prog 53 #[.int .i64 k] w fun e w' => e = .returned (.bool (formKind k)) ∧ w' = w := by
  have h : formKind k = (decide (1 ≤ k) && decide (k ≤ 17)) := Bool.decide_and _ _
  rw [h]
  by_cases h1 : 1 ≤ k
  all_goals
    go_enter Tryd.func53, Tryd.ntmps53
    go_wp2
    go_ret
    exact ⟨by first | (simp [h1]; done) | (simp; omega), rfl⟩
theorem refTimed (k : Int) (w : World) :
    Calls Tryd.prog 32 #[.int .i64 k] w fun e w' => e = .returned (.bool (timed k)) ∧ w' = w := by
  have h : timed k = (decide (8 ≤ k) && decide (k ≤ 17)) := Bool.decide_and _ _
  rw [h]
  by_cases h1 : 8 ≤ k
  all_goals
    go_enter Tryd.func32, Tryd.ntmps32
    go_wp2
    go_ret
    exact ⟨by first | (simp [h1]; done) | (simp; omega), rfl⟩

set_option maxHeartbeats 2000000 in
theorem refArity (k : Int) (w : World) :
    Calls Tryd.prog 30 #[.int .i64 k] w fun e w' => e = .returned (.int .i64 (arity k)) ∧ w' = w := by
  rcases arity_ways k with h | h | ⟨a1, a2, a3, a4, a5, a6, a7, a8, a9, a10, a11, h⟩
  · rcases h with rfl | rfl | rfl | rfl
    all_goals
      go_enter Tryd.func30, Tryd.ntmps30
      go_wp2
      go_ret
      exact ⟨rfl, rfl⟩
  · rcases h with rfl | rfl | rfl | rfl | rfl | rfl | rfl
    all_goals
      go_enter Tryd.func30, Tryd.ntmps30
      go_wp2
      go_ret
      exact ⟨rfl, rfl⟩
  · by_cases h1 : k < 1
    · rw [h, if_pos (Or.inl h1)]
      clear h
      go_enter Tryd.func30, Tryd.ntmps30
      go_wp2
      go_ret
      exact ⟨rfl, rfl⟩
    · by_cases h2 : 22 < k
      · rw [h, if_pos (Or.inr h2)]
        clear h
        go_enter Tryd.func30, Tryd.ntmps30
        go_wp2
        go_ret
        exact ⟨rfl, rfl⟩
      · rw [h, if_neg (by omega)]
        have h1' : decide (k < 1) = false := decide_eq_false h1
        have h2' : decide (22 < k) = false := decide_eq_false h2
        clear h
        go_enter Tryd.func30, Tryd.ntmps30
        go_wp2
        go_ret
        exact ⟨rfl, rfl⟩

theorem refFits (k c : Int) (w : World) :
    Calls Tryd.prog 34 #[.int .i64 k, .int .i64 c] w fun e w' => e = .returned (.bool (fits k c)) ∧ w' = w := by
  have hF := fun W => refFormKind c W
  by_cases h : k = 16 ∨ k = 17 ∨ k = 20 ∨ k = 21 ∨ k = 22
  · have e : fits k c = !(formKind c) := by
      unfold fits
      rw [if_pos (by simp only [regs, List.mem_cons, List.not_mem_nil, or_false]; exact h)]
    rw [e]
    obtain ⟨b, hb⟩ : ∃ b, formKind c = b := ⟨_, rfl⟩
    rw [hb] at hF ⊢
    have HF := Lib.hid hF
    clear hF hb e
    rcases h with rfl | rfl | rfl | rfl | rfl
    all_goals
      go_enter Tryd.func34, Tryd.ntmps34
      go_wp2_with (go_at_call 53; refine (HF.out _).mono ?_; rintro e w' ⟨rfl, rfl⟩)
      go_ret
      exact ⟨rfl, rfl⟩
  · have e : fits k c = formKind c := by
      unfold fits
      rw [if_neg (by simp only [regs, List.mem_cons, List.not_mem_nil, or_false]; exact h)]
    rw [e]
    have a1 : (k == 16) = false := beq_eq_false_iff_ne.2 (by omega)
    have a2 : (k == 17) = false := beq_eq_false_iff_ne.2 (by omega)
    have a3 : (k == 20) = false := beq_eq_false_iff_ne.2 (by omega)
    have a4 : (k == 21) = false := beq_eq_false_iff_ne.2 (by omega)
    have a5 : (k == 22) = false := beq_eq_false_iff_ne.2 (by omega)
    obtain ⟨b, hb⟩ : ∃ b, formKind c = b := ⟨_, rfl⟩
    rw [hb] at hF ⊢
    have HF := Lib.hid hF
    clear hF hb e h
    go_enter Tryd.func34, Tryd.ntmps34
    go_wp2_with (go_at_call 53; refine (HF.out _).mono ?_; rintro e w' ⟨rfl, rfl⟩)
    go_ret
    exact ⟨rfl, rfl⟩
end Go.Proofs.YtmjfopggehopjaaDoor.Tree
