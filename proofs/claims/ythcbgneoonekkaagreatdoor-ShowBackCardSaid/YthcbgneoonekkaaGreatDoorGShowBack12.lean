/-
  What pieces that are still to come make; how many rounds they take. By an AI agent.
  strings.Builder's copyCheck and WriteString: what they write, and what they leave alone. By an AI agent.
-/
import Derived.Test.YthcbgneoonekkaaGreatDoorGShowBack11
import Derived.Test.YthcbgneoonekkaaGreatDoorChecked
import Derived.Test.YthcbgneoonekkaaGreatDoorGShowBack6
import Derived.WalkKit
import Derived.Below
import Derived.Lib.Builder
import Derived.Lib.AppendStr
import Derived.Lib.OthersKept
import Derived.Lib.Hide
import Derived.Laws.Externs
namespace Go.Proofs.YthcbgneoonekkaaGreatDoor.Show
open Go.Proofs.YthcbgneoonekkaaGreatDoor.Tree

/-- What a piece makes: its own text, and then its node's. -/
def outX (l : List Nd) (p : Pc) : List UInt8 := p.1 ++ (if p.2 = -1 then [] else txt l p.2.toNat)
def outs (l : List Nd) (ps : List Pc) : List UInt8 := (ps.map (outX l)).flatten
/-- What is still to come, the next piece last. -/
def outAll (l : List Nd) (todo : List Pc) : List UInt8 := outs l todo.reverse
theorem outs_append (l : List Nd) (a b : List Pc) : outs l (a ++ b) = outs l a ++ outs l b := by unfold outs; rw [List.map_append, List.flatten_append]
theorem outAll_push (l : List Nd) (ts ps : List Pc) : outAll l (ts ++ ps.reverse) = outs l ps ++ outAll l ts := by
  unfold outAll
  rw [List.reverse_append, List.reverse_reverse, outs_append]
theorem outAll_pop (l : List Nd) (ts : List Pc) (p : Pc) : outAll l (ts ++ [p]) = outX l p ++ outAll l ts := by
  unfold outAll
  rw [List.reverse_append, outs_append]
  unfold outs
  simp
theorem outX_none (l : List Nd) (s : List UInt8) : outX l (s, -1) = s := by unfold outX; rw [if_pos rfl, List.append_nil]
theorem outX_node (l : List Nd) (s : List UInt8) (t : Nat) : outX l (s, (t : Int)) = s ++ txt l t := by
  unfold outX
  rw [if_neg (by show ¬ (t : Int) = -1; omega)]
  rfl
theorem word_words (n : Nd) (h : 8 ≤ n.kind ∧ n.kind ≤ 17) : word n = wordW n := by
  have ht : timed n.kind = true := by unfold timed; rw [decide_eq_true_eq]; exact h
  unfold word wordW spanW
  rw [if_pos ht, if_pos ht]
  have hw : n.kind = 8 ∨ n.kind = 9 ∨ n.kind = 10 ∨ n.kind = 11 ∨ n.kind = 12 ∨ n.kind = 13 ∨ n.kind = 14 ∨ n.kind = 15 ∨ n.kind = 16 ∨ n.kind = 17 := by omega
  rcases hw with e | e | e | e | e | e | e | e | e | e
  all_goals rw [e]; rfl
theorem word_sign (n : Nd) (h : ¬ (8 ≤ n.kind ∧ n.kind ≤ 17)) : spanW n = [] ∧ word n = sign n.kind := by
  have ht : ¬ timed n.kind = true := by unfold timed; rw [decide_eq_true_eq]; exact h
  unfold word spanW
  rw [if_neg ht, if_neg ht]
  exact ⟨rfl, rfl⟩
def partsX (l : List Nd) (n : Nd) : List UInt8 := match n.kids with
  | [] => ownA n ++ ownC n
  | [k] => ownA n ++ kidX l n 0 k.toNat ++ ownC n
  | [k, u] => ownA n ++ kidX l n 0 k.toNat ++ ownB n ++ kidX l n 1 u.toNat ++ ownC n
  | _ => []
theorem kidX_enc {l : List Nd} {n : Nd} {w t : Nat} (hr : 1 ≤ n.kind ∧ n.kind ≤ 22) (h : (kidc n.kind = 1 ∧ w = 0) ∨ (kidc n.kind = 2 ∧ w ≤ 1)) : (if encB l n w (t : Int) = true then [40] else []) ++ txt l t ++ (if encB l n w (t : Int) = true then [41] else []) = kidX l n w t := by
  unfold encB kidX
  rw [enc_bare _ _ _ hr h]
  cases bare n.kind w (kindAt l (t : Int)) <;> simp
theorem outs_parts {l : List Nd} {i : Nat} {n : Nd} (h : mayL l = true) (hn : l[i]? = some n) (hr : 1 ≤ n.kind ∧ n.kind ≤ 22) : outs l (piecesL l n) = partsX l n := by
  obtain ⟨-, -, hk⟩ := kids_at h hn
  unfold piecesL partsX
  rcases hk with ⟨e, hc, -⟩ | ⟨t, e, hc, -, -, -⟩ | ⟨t, u, e, hc, -, -, -, -, -⟩
  · rw [e]
    show outs l [(ownA n ++ ownC n, -1)] = _
    unfold outs
    simp [outX_none]
  · rw [e]
    show outs l [(ownA n ++ [] ++ (if encB l n 0 (t : Int) = true then [40] else []), (t : Int)), ((if encB l n 0 (t : Int) = true then [41] else []) ++ ownC n, -1)] = ownA n ++ kidX l n 0 (t : Int).toNat ++ ownC n
    rw [Int.toNat_natCast, ← kidX_enc hr (Or.inl ⟨hc, rfl⟩)]
    unfold outs
    simp only [List.map_cons, List.map_nil, List.flatten_cons, List.flatten_nil, outX_none, outX_node, List.append_nil, List.append_assoc]
  · rw [e]
    show outs l [(ownA n ++ [] ++ (if encB l n 0 (t : Int) = true then [40] else []), (t : Int)), ((if encB l n 0 (t : Int) = true then [41] else []) ++ ownB n ++ (if encB l n 1 (u : Int) = true then [40] else []), (u : Int)), ((if encB l n 1 (u : Int) = true then [41] else []) ++ ownC n, -1)] = ownA n ++ kidX l n 0 (t : Int).toNat ++ ownB n ++ kidX l n 1 (u : Int).toNat ++ ownC n
    rw [Int.toNat_natCast, Int.toNat_natCast, ← kidX_enc hr (Or.inr ⟨hc, by decide⟩), ← kidX_enc hr (Or.inr ⟨hc, by decide⟩)]
    unfold outs
    simp only [List.map_cons, List.map_nil, List.flatten_cons, List.flatten_nil, outX_none, outX_node, List.append_nil, List.append_assoc]
theorem kind_of0 {k : Int} (_hr : 1 ≤ k ∧ k ≤ 22) (hc : kidc k = 0) : k = 1 ∨ k = 2 ∨ k = 3 ∨ k = 18 := by
  unfold kidc none0 twos at hc
  simp only [List.mem_cons, List.not_mem_nil, or_false] at hc
  repeat' split at hc
  all_goals first | (exfalso; revert hc; decide) | omega
theorem kind_of1 {k : Int} (hr : 1 ≤ k ∧ k ≤ 22) (hc : kidc k = 1) : k = 4 ∨ k = 19 ∨ k = 22 ∨ (k = 16 ∨ k = 17) ∨ (8 ≤ k ∧ k ≤ 13) := by
  unfold kidc none0 twos at hc
  simp only [List.mem_cons, List.not_mem_nil, or_false] at hc
  repeat' split at hc
  all_goals first | (exfalso; revert hc; decide) | omega
theorem kind_of2 {k : Int} (hr : 1 ≤ k ∧ k ≤ 22) (hc : kidc k = 2) : k = 5 ∨ k = 6 ∨ k = 7 ∨ k = 20 ∨ k = 21 ∨ (k = 14 ∨ k = 15) := by
  unfold kidc none0 twos at hc
  simp only [List.mem_cons, List.not_mem_nil, or_false] at hc
  repeat' split at hc
  all_goals first | (exfalso; revert hc; decide) | omega
theorem parts_text {l : List Nd} {i : Nat} {n : Nd} (h : mayL l = true) (hn : l[i]? = some n) (hr : 1 ≤ n.kind ∧ n.kind ≤ 22) : partsX l n = txt l i := by
  have hi := (List.getElem?_eq_some_iff.1 hn).1
  obtain ⟨-, -, hk⟩ := kids_at h hn
  rw [txt_node hn]
  unfold partsX kidsT
  have wsign : ∀ s : List UInt8, ¬ (8 ≤ n.kind ∧ n.kind ≤ 17) → strTab.getD n.kind.toNat [] = s → wordW n = s := fun s h1 h2 => by
    unfold wordW
    rw [(word_sign n h1).1, h2, List.append_nil]
  rcases hk with ⟨e, hc, -⟩ | ⟨t, e, hc, -, hle, hti⟩ | ⟨t, u, e, hc, -, hle, -, htu, hui⟩
  · rw [e]
    show ownA n ++ ownC n = nodeT n []
    have e2 : n.kids.length = 0 := by rw [e]; rfl
    unfold ownA ownC nodeT
    rw [e2]
    rcases kind_of0 hr hc with hk | hk | hk | hk
    · rw [wsign [116, 114, 117, 101] (by omega) (by rw [hk]; rfl), hk]; rfl
    · rw [wsign [102, 97, 108, 115, 101] (by omega) (by rw [hk]; rfl), hk]; rfl
    · rw [if_pos hk, if_neg (by omega), if_neg (by omega), if_neg (by omega), if_neg (by omega), if_pos hk, List.append_nil]
    · rw [wsign [46] (by omega) (by rw [hk]; rfl), hk]; rfl
  · rw [e]
    show ownA n ++ kidX l n 0 (t : Int).toNat ++ ownC n = nodeT n [kidT (textsTo l i) l n 0 (t : Int)]
    rw [kidT_at (by omega) (by omega), Int.toNat_natCast]
    have e2 : n.kids.length = 1 := by rw [e]; rfl
    obtain ⟨K, hK⟩ : ∃ K, kidX l n 0 t = K := ⟨_, rfl⟩
    rw [hK]
    unfold ownA ownC nodeT
    rw [e2]
    rcases kind_of1 hr hc with hk | hk | hk | hk | hk
    · rw [wsign [33] (by omega) (by rw [hk]; rfl), hk]; simp
    · rw [wsign [63] (by omega) (by rw [hk]; rfl), hk]; simp
    · rw [wsign [42] (by omega) (by rw [hk]; rfl), hk]; simp
    · rw [word_words n (by omega)]
      rw [if_neg (by omega), if_neg (by omega), if_pos hk, if_pos hk, if_neg (by omega), if_neg (by omega), if_neg (by omega), if_neg (by omega), if_neg (by omega), if_neg (by omega), if_neg (by omega), if_pos hk]
      simp
    · rw [word_words n (by omega)]
      rw [if_neg (by omega), if_pos hk, if_neg (by omega), if_neg (by omega), if_neg (by omega), if_neg (by omega), if_neg (by omega), if_neg (by omega), if_neg (by omega), if_neg (by omega), if_neg (by omega), if_neg (by omega), if_pos (show [K].length = 1 from rfl)]
      simp
  · rw [e]
    show ownA n ++ kidX l n 0 (t : Int).toNat ++ ownB n ++ kidX l n 1 (u : Int).toNat ++ ownC n = nodeT n [kidT (textsTo l i) l n 0 (t : Int), kidT (textsTo l i) l n 1 (u : Int)]
    rw [kidT_at (by omega) (by omega), kidT_at (by omega) (by omega), Int.toNat_natCast, Int.toNat_natCast]
    have e2 : n.kids.length = 2 := by rw [e]; rfl
    obtain ⟨K, hK⟩ : ∃ K, kidX l n 0 t = K := ⟨_, rfl⟩
    obtain ⟨J, hJ⟩ : ∃ J, kidX l n 1 u = J := ⟨_, rfl⟩
    rw [hK, hJ]
    have hw : word n = wordW n := by
      rcases kind_of2 hr hc with hk | hk | hk | hk | hk | hk
      · rw [(word_sign n (by omega)).2, wsign [38] (by omega) (by rw [hk]; rfl), hk]; rfl
      · rw [(word_sign n (by omega)).2, wsign [124] (by omega) (by rw [hk]; rfl), hk]; rfl
      · rw [(word_sign n (by omega)).2, wsign [45, 62] (by omega) (by rw [hk]; rfl), hk]; rfl
      · rw [(word_sign n (by omega)).2, wsign [43] (by omega) (by rw [hk]; rfl), hk]; rfl
      · rw [(word_sign n (by omega)).2, wsign [59] (by omega) (by rw [hk]; rfl), hk]; rfl
      · exact word_words n (by omega)
    have hne := kind_of2 hr hc
    unfold ownA ownB ownC nodeT
    rw [e2, hw, if_neg (by omega), if_neg (by omega), if_neg (by omega), if_pos (by omega), if_pos (by omega), if_neg (by omega), if_neg (by omega), if_neg (by omega), if_neg (by omega), if_neg (by omega), if_neg (by omega), if_neg (by omega), if_neg (by omega), if_neg (by omega), if_neg (by omega), if_neg (show ¬ [K, J].length = 1 by show ¬ 2 = 1; omega)]
    simp
/-- The pieces of a node's text make its text. -/
theorem outs_text {l : List Nd} {i : Nat} {n : Nd} (h : mayL l = true) (hn : l[i]? = some n) (hr : 1 ≤ n.kind ∧ n.kind ≤ 22) : outs l (piecesL l n) = txt l i := (outs_parts h hn hr).trans (parts_text h hn hr)

/-! ### how many rounds -/
def wt (l : List Nd) (p : Pc) : Nat := if p.2 = -1 then 1 else 1 + 3 * (p.2.toNat + 1 - startL l p.2.toNat)
def wtAll (l : List Nd) (ps : List Pc) : Nat := (ps.map (wt l)).sum
theorem wt_none (l : List Nd) (s : List UInt8) : wt l (s, -1) = 1 := if_pos rfl
theorem wt_node (l : List Nd) (s : List UInt8) (t : Nat) : wt l (s, (t : Int)) = 1 + 3 * (t + 1 - startL l t) := by
  unfold wt
  rw [if_neg (by show ¬ (t : Int) = -1; omega)]
  rfl
theorem wtAll_append (l : List Nd) (a b : List Pc) : wtAll l (a ++ b) = wtAll l a + wtAll l b := by unfold wtAll; rw [List.map_append, List.sum_append]
theorem wtAll_reverse (l : List Nd) (a : List Pc) : wtAll l a.reverse = wtAll l a := by
  unfold wtAll
  rw [List.map_reverse]
  induction (a.map (wt l)) with
  | nil => rfl
  | cons x r ih => rw [List.reverse_cons, List.sum_append, ih, List.sum_cons, List.sum_cons, List.sum_nil]; omega
theorem len_wt (l : List Nd) : ∀ ps : List Pc, ps.length ≤ wtAll l ps
  | [] => Nat.zero_le _
  | p :: r => by
    have := len_wt l r
    have h1 : 1 ≤ wt l p := by unfold wt; split <;> omega
    show r.length + 1 ≤ wt l p + wtAll l r
    omega
def GoodP (n : Nat) (p : Pc) : Prop := p.2 = -1 ∨ ∃ t : Nat, p.2 = (t : Int) ∧ t < n
theorem pieces_good {l : List Nd} {i : Nat} {n : Nd} (h : mayL l = true) (hn : l[i]? = some n) : (∀ p ∈ piecesL l n, GoodP l.length p) ∧ wtAll l (piecesL l n) ≤ 3 * (i + 1 - startL l i) ∧ 1 ≤ (piecesL l n).length ∧ (piecesL l n).length ≤ 3 := by
  have hi := (List.getElem?_eq_some_iff.1 hn).1
  obtain ⟨-, -, hk⟩ := kids_at h hn
  unfold piecesL
  rcases hk with ⟨e, hc, hs⟩ | ⟨t, e, hc, hs, hle, hti⟩ | ⟨t, u, e, hc, hs, hle, hs2, htu, hui⟩
  · rw [e]
    show (∀ p ∈ [(ownA n ++ ownC n, (-1 : Int))], GoodP l.length p) ∧ wtAll l [(ownA n ++ ownC n, -1)] ≤ _ ∧ 1 ≤ 1 ∧ 1 ≤ 3
    refine ⟨fun p hp => ?_, ?_, by decide, by decide⟩
    · rw [List.mem_singleton.1 hp]; exact Or.inl rfl
    · show wt l _ + 0 ≤ _
      rw [wt_none]; omega
  · rw [e]
    obtain ⟨a, b, hab⟩ : ∃ a b, (pfold l n [(t : Int)]).2.2 ++ [((pfold l n [(t : Int)]).2.1 ++ ownC n, (-1 : Int))] = [(a, (t : Int)), (b, -1)] := ⟨_, _, rfl⟩
    rw [hab]
    refine ⟨fun p hp => ?_, ?_, by show 1 ≤ 2; decide, by show 2 ≤ 3; decide⟩
    · rcases List.mem_cons.1 hp with rfl | hp
      · exact Or.inr ⟨t, rfl, by omega⟩
      · rw [List.mem_singleton.1 hp]; exact Or.inl rfl
    · show wt l _ + (wt l _ + 0) ≤ _
      rw [wt_none, wt_node]; omega
  · rw [e]
    obtain ⟨a, b, c, hab⟩ : ∃ a b c, (pfold l n [(t : Int), (u : Int)]).2.2 ++ [((pfold l n [(t : Int), (u : Int)]).2.1 ++ ownC n, (-1 : Int))] = [(a, (t : Int)), (b, (u : Int)), (c, -1)] := ⟨_, _, _, rfl⟩
    rw [hab]
    refine ⟨fun p hp => ?_, ?_, by show 1 ≤ 3; decide, by show 3 ≤ 3; decide⟩
    · rcases List.mem_cons.1 hp with rfl | hp
      · exact Or.inr ⟨t, rfl, by omega⟩
      · rcases List.mem_cons.1 hp with rfl | hp
        · exact Or.inr ⟨u, rfl, by omega⟩
        · rw [List.mem_singleton.1 hp]; exact Or.inl rfl
    · show wt l _ + (wt l _ + (wt l _ + 0)) ≤ _
      rw [wt_none, wt_node, wt_node]; omega
end Go.Proofs.YthcbgneoonekkaaGreatDoor.Show

namespace Go.Proofs.YthcbgneoonekkaaGreatDoor.Show
open Go.RowKit

abbrev Bld (B b : Nat) (l : List UInt8) (w : World) : Prop := Lib.IsBuilder 48 5 B b (Lib.byteCells l) w
theorem infoBld : (Tryz.prog.info? 48).map (·.size) = some 2 := by kernel_rfl
theorem liesBld : liesAt Tryz.prog Tryz.prog.depth 48 (2 / Tryz.prog.cellsOf 48) 0 48 1 = true := by kernel_rfl
theorem infoByte : (Tryz.prog.info? 5).map (fun i => (i.zero, i.size, i.bytes)) = some (some (.int .u8 0), 1, 1) := by kernel_rfl

set_option maxRecDepth 100000 in
theorem copyUsed (b : Nat) (w : World) (h0 : w.cell? ⟨b, 0, none⟩ = some (.pointer (some ⟨b, 0, none⟩))) :
    Calls Tryz.prog 30 #[.pointer (some ⟨b, 0, none⟩)] w fun e w' => e = .returned (.tuple #[]) ∧ w' = w := by
  obtain ⟨j, hj, -⟩ := Option.map_eq_some_iff.1 infoBld
  have hq := Lib.run_neq_ptr_same (P := Tryz.prog) w (tp := 45) ⟨b, 0, none⟩ Tryz.underlying45 hj
  go_enter Tryz.func30, Tryz.ntmps30
  go_wp2
  go_end0
  exact ⟨rfl, rfl⟩
set_option maxRecDepth 100000 in
theorem copyFresh (b : Nat) (w : World) (h0 : w.cell? ⟨b, 0, none⟩ = some (.pointer none)) (hsh : w.shape? b = some (48, 2)) (hfz : w.frozen? ⟨b, 0, none⟩ = false) :
    Calls Tryz.prog 30 #[.pointer (some ⟨b, 0, none⟩)] w fun e w' => e = .returned (.tuple #[]) ∧ w' = w.setCell ⟨b, 0, none⟩ (.pointer (some ⟨b, 0, none⟩)) := by
  obtain ⟨j, hj, hjs⟩ := Option.map_eq_some_iff.1 infoBld
  have q1 := Lib.run_to_unsafe (P := Tryz.prog) (src := 45) (dst := 94) w ⟨b, 0, none⟩ Tryz.underlying45 Tryz.underlying94 hj (by rw [hjs]; decide) hsh (Nat.zero_lt_succ 1)
  have q2 := Lib.run_from_unsafe (P := Tryz.prog) (src := 94) (dst := 45) w ⟨b, 0, none⟩ Tryz.underlying94 Tryz.underlying45 hj hsh liesBld
  go_enter Tryz.func30, Tryz.ntmps30
  go_wp2
  rw [run_callFunc_extern Tryz.func48 (by kernel_rfl) (by kernel_rfl) (by kernel_rfl) (e := Extern.AbiNoEscape.same) (by kernel_rfl), Lib.run_noEscape]
  simp only [Result.andThen]
  rw [Oper.upon_value]
  go_wp2
  go_end0
  exact ⟨rfl, rfl⟩
theorem landCopy (B b : Nat) (bs : List Value) (w : World) (h : Lib.IsBuilder 48 5 B b bs w) :
    Calls Tryz.prog 30 #[.pointer (some ⟨b, 0, none⟩)] w fun e w' => e = .returned (.tuple #[]) ∧ Lib.BuilderAt 48 5 B b (.pointer (some ⟨b, 0, none⟩)) bs w' ∧ Below B w w' ∧ Lib.OthersKept 5 (some b) w w' := by
  rcases h with h | h
  · refine (copyFresh b w h.cell0 h.shape h.frozen0).mono ?_
    rintro e w' ⟨rfl, rfl⟩
    exact ⟨rfl, h.used _, (Below.refl B w).setCell (p := ⟨b, 0, none⟩) h.1 _, (Lib.OthersKept.refl _ _ w).setCell ⟨b, 0, none⟩ rfl _⟩
  · refine (copyUsed b w h.cell0).mono ?_
    rintro e w' ⟨rfl, rfl⟩
    exact ⟨rfl, h, Below.refl B _, Lib.OthersKept.refl _ _ _⟩
theorem row_kind {w : World} {B : Nat} {e : TypeId} {v : Value} {n : Nat} {xs : List Value} (h : w.ownsRow B e 1 v n xs) : ∀ g, v.ownBlock = some g → ∃ c fz, w.heap[g]? = some (.cells c e fz) := by
  intro g hg
  rcases h.2 with ⟨rfl, -⟩ | ⟨g', cap, cur, rfl, -, hgg, -⟩
  · simp [Value.ownBlock] at hg
  · simp [Value.ownBlock] at hg
    subst hg
    exact ⟨cur, _, hgg⟩
theorem own_cut {w : World} {B : Nat} {e : TypeId} {v : Value} {n : Nat} {xs : List Value} (h : w.ownsRow B e 1 v n xs) : ∃ ao n' cap, v = .slice ao n' cap := by
  rcases h.2 with ⟨hv, -⟩ | ⟨g, cap, cur, hv, -⟩
  · exact ⟨_, _, _, hv⟩
  · exact ⟨_, _, _, hv⟩
set_option maxHeartbeats 4000000 in
set_option maxRecDepth 100000 in
theorem landWrite (B b : Nat) (bs : List Value) (s : ByteArray) (w : World) (h : Lib.IsBuilder 48 5 B b bs w) (hlen : bs.length + s.size ≤ 140737488355328) (hB : B ≤ w.heap.size) :
    Calls Tryz.prog 16 #[.pointer (some ⟨b, 0, none⟩), .string s] w fun e w' => e = .returned (.tuple #[.int .i64 s.size, .nilIface]) ∧
      Lib.IsBuilder 48 5 B b (bs ++ Lib.strCells s) w' ∧ Below B w w' ∧ Lib.OthersKept 5 (some b) w w' := by
  obtain ⟨i0, hi, hz0, hz1, hz2⟩ := info_parts infoByte
  have HC := Lib.hid (landCopy B b bs w h)
  clear h
  go_enter Tryz.func16, Tryz.ntmps16
  go_wp2_with (first
    | (go_at_call 30; refine HC.out.mono ?_; rintro e w1 ⟨rfl, ⟨hBb, v, hbk, hown, hne⟩, hb1, hk1⟩; have c0 : w1.cell? ⟨b, 0, none⟩ = some (.pointer (some ⟨b, 0, none⟩)) := (by rw [Lib.cell_of_heap hbk]; rfl); have c1 : w1.cell? ⟨b, 1, none⟩ = some v := (by rw [Lib.cell_of_heap hbk]; rfl); have hsz := hb1.size)
    | (at_builtin; go_loud (refine Lib.wpList_append_own_string _ rfl _ _ 46 9 rfl B 5 i0 Tryz.underlying46 Tryz.underlying9 hi hz0 hz1 hz2 _ _ _ rfl hown s rfl (by unfold maxLen; omega) (by omega) (by omega) ?_; intro v' w2 hown' hgrow _; have hlt : b < w1.heap.size := (Lib.BuilderAt.lt ⟨hBb, v, hbk, hown, hne⟩); have hb2 : w2.heap[b]? = some (.cells #[.pointer (some ⟨b, 0, none⟩), v] 48 (0, 0)) := ((hgrow.block b hlt (fun e => hne e.symm)).trans hbk); have d0 : w2.cell? ⟨b, 0, none⟩ = some (.pointer (some ⟨b, 0, none⟩)) := (by rw [Lib.cell_of_heap hb2]; rfl); have d1 : w2.cell? ⟨b, 1, none⟩ = some v := (by rw [Lib.cell_of_heap hb2]; rfl); have f1 : w2.frozen? ⟨b, 1, none⟩ = false := Lib.frozen_of_heap hb2 1; obtain ⟨ao, n', cap, rfl⟩ : ∃ ao n' cap, v' = .slice ao n' cap := (own_cut hown'))))
  go_wp2
  go_ret2
  refine ⟨rfl, Or.inr ?_, ?_, (hk1.grown hgrow (row_kind hown)).setCell ⟨b, 1, none⟩ rfl _⟩
  · exact Lib.BuilderAt.put (T := 48) (e := 5) hBb hb2 (bs' := bs ++ Lib.strCells s) (by simpa [Lib.strCells_length] using hown') (by decide)
  · exact (hb1.grown hgrow (by omega) (fun k hk => (hown.lt k hk).1)).setCell (p := ⟨b, 1, none⟩) hBb _
end Go.Proofs.YthcbgneoonekkaaGreatDoor.Show
