/-
  The walk of the reference's word. By an AI agent.
  The table of the kinds' words, in its variable; how a row that lists it gives it. By an AI agent.
  The walks of the landed ival's endless and May. By an AI agent.
  The walk of the landed ival's Text. By an AI agent.
-/
import Derived.Test.YtmjfopggehopjaaDoorGShowTells11
import Derived.Test.YtmjfopggehopjaaDoorGShowTells6
import Derived.Test.YtmjfopggehopjaaDoorGShowTells9
import Derived.Lib.LaidTab
import Derived.WalkSmall
import Derived.Test.YtmjfopggehopjaaDoorGShowTells3
namespace Go.Proofs.YtmjfopggehopjaaDoor.Show
open Go.RowKit Go.Proofs.YtmjfopggehopjaaDoor.Tree Go.Proofs.YtmjfopggehopjaaDoor.Itoa Go.Proofs.YtmjfopggehopjaaDoor.Ints

theorem bytes_join (a : List UInt8) (s : ByteArray) : Lex.bytes (a ++ s.data.toList) = Lex.bytes a ++ s := by
  apply ByteArray.ext
  apply Array.toList_inj.1
  simp [Lex.bytes]
theorem bytes_self (s : ByteArray) : Lex.bytes s.data.toList = s := by
  apply ByteArray.ext
  apply Array.toList_inj.1
  simp [Lex.bytes]
theorem word_timed {kd : Int} {nm : ByteArray} {lo hi : Int} {ks : List Int} (h : timed kd = true) : word ⟨kd, nm, lo, hi, ks⟩ = words.getD (kd - 8).toNat [] ++ spanT lo hi := if_pos h
theorem box_cell {w w' : World} {cs : Array Value} {T : TypeId} (hb : Below (w.alloc (.cells cs T)).heap.size (w.alloc (.cells cs T)) w') (i : Nat) (v : Value) (hi : cs[i]? = some v) : w'.cell? ⟨w.heap.size, i, none⟩ = some v :=
  below_cell hb (by
    have h : (w.alloc (.cells cs T)).heap[w.heap.size]? = some (.cells cs T (0, 0)) := heap_alloc_new w (.cells cs T)
    unfold World.cell?
    simp only [h]
    exact hi)
end Go.Proofs.YtmjfopggehopjaaDoor.Show

namespace Go.Proofs.YtmjfopggehopjaaDoor.Show
open Go.RowKit Go.Proofs.YtmjfopggehopjaaDoor.Tree Go.Proofs.YtmjfopggehopjaaDoor.Itoa

def strTab : List (List UInt8) := [[], [116, 114, 117, 101], [102, 97, 108, 115, 101], [], [33], [38], [124], [45, 62], [112, 114, 101, 118], [110, 101, 120, 116], [111, 110, 99, 101], [104, 105, 115, 116], [115, 111, 109, 101], [97, 108, 108], [115, 105, 110, 99, 101], [117, 110, 116, 105, 108], [98, 97, 99, 107], [102, 111, 114, 101], [46], [63], [43], [59], [42]]
/-- The variable holds the words. -/
def WordsT (w : World) : Prop := w.var? Tryd.prog "watchglass/show.words" = some (strTab.map fun z => Value.string (Lex.bytes z)).toArray
theorem gWords : Tryd.prog.globalNamed "watchglass/show.words" = some 0 := by kernel_rfl
theorem WordsT.cell {w : World} (h : WordsT w) {i : Nat} (hi : i < 23) : w.cell? ⟨0, i, none⟩ = some (.string (Lex.bytes (strTab.getD i []))) := by
  have hl : i < strTab.length := hi
  rw [World.var?_cell gWords h i, List.getElem?_toArray, List.getElem?_map, List.getElem?_eq_getElem hl, List.getD_eq_getElem?_getD, List.getElem?_eq_getElem hl]
  rfl
theorem WordsT.later {w w' : World} (h : WordsT w) (hb : Below w.heap.size w w') : WordsT w' :=
  var?_below hb gWords (World.block_lt_of_cell? w _ (h.cell (i := 0) (by decide))) h
/-- Both tables. -/
def Tabs (w : World) : Prop := Tab10 w ∧ WordsT w
theorem Tabs.later {w w' : World} (h : Tabs w) (hb : Below w.heap.size w w') : Tabs w' := ⟨h.1.later hb, h.2.later hb⟩

def strData {H : Type} (zs : List (List UInt8)) : DataW H := .agg (zs.map fun z => .lit (.string z))
theorem cells_of_strs {H : Type} {enc : TypeId × Value → H} {P : Program} {w : World} {base : Nat} {sp : Nat → Bool} {held : Bool} {fuel : Nat} {t e : TypeId} {n : Nat} {cs : List Value} {zs : List (List UInt8)} {p : List MemPlace}
    (ht : P.underlying t = some (.array n e)) (he : P.underlying e = some .string) (hce : P.cellsOf e = 1) (hct : P.cellsOf t = n)
    (h : DataW.trod enc P w base sp held fuel t cs = some (strData zs, p)) : cs = zs.map fun z => Value.string (Lex.bytes z) := by
  cases fuel with
  | zero => simp [DataW.trod] at h
  | succ fuel =>
    simp only [DataW.trod, ht, hce, hct, Nat.mul_one] at h
    split at h
    · rename_i hl
      obtain ⟨xs, hm, hx⟩ := Option.map_eq_some_iff.1 h
      have hxs : xs.map (·.1) = zs.map fun z => (DataW.lit (.string z) : DataW H) := by
        have := congrArg Prod.fst hx
        simpa [strData] using this
      have hxl : xs.length = n := by simpa using Lib.mapM_length hm
      have hzl : zs.length = n := by
        have := congrArg List.length hxs
        simp at this
        omega
      apply List.ext_getElem?
      intro i
      by_cases hi : i < n
      · obtain ⟨b, hb, hf⟩ := Lib.mapM_at hm i i (by simp [hi])
        obtain ⟨z, hc, rfl, _⟩ := DataW.trod_string he hf
        have h1 : cs[i]? = some (.string z) := by
          have := congrArg (·[0]?) hc
          simpa [List.getElem?_take, List.getElem?_drop] using this
        have h2 : (xs.map (·.1))[i]? = some (DataW.lit (.string z.data.toList) : DataW H) := by simp [hb]
        rw [hxs] at h2
        simp only [List.getElem?_map, Option.map_eq_some_iff, DataW.lit.injEq, Lit.string.injEq] at h2
        obtain ⟨z', hz', rfl⟩ := h2
        rw [h1, List.getElem?_map, hz']
        rfl
      · rw [List.getElem?_eq_none (by omega), List.getElem?_eq_none (by simp; omega)]
    · cases h
theorem words_of_head {W : World} {rest : List (String × DataW Unit)} {t e : TypeId}
    (hty : (Tryd.prog.globals[0]?).map (·.type) = some t) (ht : Tryd.prog.underlying t = some (.array 23 e)) (he : Tryd.prog.underlying e = some .string) (hce : Tryd.prog.cellsOf e = 1) (hct : Tryd.prog.cellsOf t = 23)
    (h : laidMet Tryd.prog (("watchglass/show.words", strData strTab) :: rest) W) : WordsT W := by
  obtain ⟨ps, ⟨g', t', cs, fuel, p, q, hg', ht', hvar, hd, _, _⟩, _⟩ := h
  obtain rfl := Option.some.inj (gWords.symm.trans hg')
  obtain rfl := Option.some.inj (hty.symm.trans ht')
  unfold WordsT
  rw [hvar, ← cells_of_strs ht he hce hct hd]
end Go.Proofs.YtmjfopggehopjaaDoor.Show

namespace Go.Proofs.YtmjfopggehopjaaDoor.Ival
open Go.RowKit

theorem progEndless (lo hi : Int) (w : World) :
    Calls Tryd.prog 62 #[span lo hi] w fun e w' => e = .returned (.bool (hi == -1)) ∧ Below w.heap.size w w' := by
  go_enter Tryd.func62, Tryd.ntmps62
  go_wp2
  go_ret
  exact ⟨rfl, (Below.refl _ _).alloc (Nat.le_refl _) _⟩

theorem progMay (lo hi : Int) (w : World) :
    Calls Tryd.prog 56 #[span lo hi] w fun e w' => e = .returned (.bool (mayS lo hi)) ∧ Below w.heap.size w w' := by
  have he := fun W => progEndless lo hi W
  rcases may_cases lo hi with ⟨h1, h⟩ | ⟨h1, h2, h⟩ | ⟨h1, h2, h3, h⟩ | ⟨h1, h2, h3, h4, h⟩ | ⟨h1, h2, h3, h4, h5, h⟩ | ⟨h1, h2, h3, h4, h5, h⟩
  case' inr.inr.inl =>
    subst h3
    have h3 : ((-1 : Int) == -1) = true := rfl
  case' inr.inr.inl | inr.inr.inr.inl | inr.inr.inr.inr.inl | inr.inr.inr.inr.inr =>
    rw [h3] at he
  all_goals
    rw [h]
    clear h
    have HE := Lib.hid he
    clear he
    go_enter Tryd.func56, Tryd.ntmps56
    go_wp2_with (go_at_call 62; refine (HE.out _).mono ?_; rintro e w' ⟨rfl, hb⟩; have hc0 := box0 hb; have hc1 := box1 hb)
    go_ret
    first
      | exact ⟨rfl, ((Below.refl _ _).alloc (Nat.le_refl _) _).trans (hb.mono (by simp))⟩
      | exact ⟨rfl, (Below.refl _ _).alloc (Nat.le_refl _) _⟩

end Go.Proofs.YtmjfopggehopjaaDoor.Ival

namespace Go.Proofs.YtmjfopggehopjaaDoor.Ival
open Go.RowKit Go.Proofs.YtmjfopggehopjaaDoor.Itoa

/-- The end, as it is written. -/
def endS (hi : Int) : ByteArray := if hi = -1 then { data := #[42] } else dec hi

theorem progEndText (lo hi : Int) (w : World) (h9 : hi = -1 ∨ 0 ≤ hi ∧ hi ≤ 9999) (hT : Tab10 w) :
    Calls Tryd.prog 63 #[span lo hi] w fun e w' => e = .returned (.string (endS hi)) ∧ Below w.heap.size w w' := by
  have he := fun W => progEndless lo hi W
  unfold endS
  by_cases h1 : hi = -1
  · subst h1
    rw [if_pos rfl]
    rw [show ((-1 : Int) == -1) = true from rfl] at he
    have HE := Lib.hid he
    clear he
    go_enter Tryd.func63, Tryd.ntmps63
    go_wp2_with (go_at_call 62; refine (HE.out _).mono ?_; rintro e w' ⟨rfl, hb⟩; have hc0 := box0 hb; have hc1 := box1 hb)
    go_ret
    exact ⟨rfl, ((Below.refl _ _).alloc (Nat.le_refl _) _).trans (hb.mono (by simp))⟩
  · rw [if_neg h1]
    rw [show (hi == -1) = false by simp [h1]] at he
    have HE := Lib.hid he
    have hr : -9223372036854775808 ≤ hi ∧ hi ≤ 9223372036854775807 := by omega
    have HT := Lib.hid (fun o W (hb : Below (w.alloc o).heap.size (w.alloc o) W) => (hT.later (((Below.refl _ _).alloc (Nat.le_refl _) o).trans (hb.mono (by simp)))))
    clear he h1 h9
    go_enter Tryd.func63, Tryd.ntmps63
    go_wp2_with (first
      | (go_at_call 62; refine (HE.out _).mono ?_; rintro e w' ⟨rfl, hb⟩; have hc0 := box0 hb; have hc1 := box1 hb)
      | (go_at_call 54; refine (itoa hi _ hr (HT.out _ _ hb)).mono ?_; rintro e w2 ⟨rfl, hb2⟩))
    go_ret
    exact ⟨rfl, (((Below.refl _ _).alloc (Nat.le_refl _) _).trans (hb.mono (by simp))).trans (hb2.mono (by have := hb.size; simp at this; omega))⟩

theorem endS_size (hi : Int) (h9 : hi = -1 ∨ 0 ≤ hi ∧ hi ≤ 9999) : (endS hi).size ≤ 21 := by
  unfold endS
  split
  · decide
  · exact dec_size hi (by omega)
theorem open_end (A : ByteArray) : A ++ { data := #[44, 42, 93] } = A ++ { data := #[44] } ++ { data := #[42] } ++ { data := #[93] } := by
  rw [ByteArray.append_assoc, ByteArray.append_assoc]
  rfl
theorem text_end {lo hi : Int} (h : mayS lo hi = true) : textS lo hi = { data := #[91] } ++ dec lo ++ { data := #[44] } ++ endS hi ++ { data := #[93] } := by
  unfold textS endS
  rw [if_pos h]
  split
  · exact open_end _
  · rfl

set_option maxHeartbeats 1000000 in
theorem progText (lo hi : Int) (w : World) (hT : Tab10 w) :
    Calls Tryd.prog 57 #[span lo hi] w fun e w' => e = .returned (.string (textS lo hi)) ∧ Below w.heap.size w w' := by
  have hm := fun W => progMay lo hi W
  rcases Bool.eq_false_or_eq_true (mayS lo hi) with h | h
  · rw [text_end h]
    obtain ⟨h1, h2, h3⟩ := may_parts h
    have h9 : hi = -1 ∨ 0 ≤ hi ∧ hi ≤ 9999 := by omega
    have he := fun W (hW : Tab10 W) => progEndText lo hi W h9 hW
    have hd2 := endS_size hi h9
    have hd := dec_size lo (by omega)
    have hr : -9223372036854775808 ≤ lo ∧ lo ≤ 9223372036854775807 := by omega
    rw [h] at hm
    obtain ⟨t, ht⟩ : ∃ t, endS hi = t := ⟨_, rfl⟩
    rw [ht] at he hd2 ⊢
    have HM := Lib.hid hm
    have HE := Lib.hid he
    have HT := Lib.hid (fun o W (hb : Below (w.alloc o).heap.size (w.alloc o) W) => (hT.later (((Below.refl _ _).alloc (Nat.le_refl _) o).trans (hb.mono (by simp)))))
    clear hm h he ht h1 h2 h3 h9
    go_enter Tryd.func57, Tryd.ntmps57
    go_wp2_with (go_at_call 56; refine (HM.out _).mono ?_; rintro e w' ⟨rfl, hb⟩; have hc0 := box0 hb; have hc1 := box1 hb)
    have hT1 := HT.out _ _ hb
    have hsz : w.heap.size ≤ w'.heap.size := by have := hb.size; simp at this; omega
    have HB := Lib.hid (((Below.refl w.heap.size w).alloc (Nat.le_refl _) _).trans (hb.mono (by simp)))
    clear hb HT HM
    go_region_with (first
      | (go_at_call 63; refine (HE.out _ (by first | exact hT1.later hb2 | exact (hT1.later (below_drewN (Below.refl _ _) _)).later hb2 | exact (show Tab10 _ from hT1).later hb2)).mono ?_; rintro e w3 ⟨rfl, hb3⟩)
      | (go_at_call 54; refine (itoa lo _ hr (by first | exact hT1 | exact hT1.later (below_drewN (Below.refl _ _) _))).mono ?_; rintro e w2 ⟨rfl, hb2⟩; have hc2 := keep_cell hb2 hc0; have hc3 := keep_cell hb2 hc1))
    all_goals
      go_wp2
      go_ret
      exact ⟨rfl, ((HB.out.drew).trans (hb2.mono hsz)).trans (hb3.mono (Nat.le_trans hsz hb2.size))⟩
  · rw [show textS lo hi = { data := #[] } by unfold textS; rw [h]; rfl]
    rw [h] at hm
    have HM := Lib.hid hm
    clear hm h
    go_enter Tryd.func57, Tryd.ntmps57
    go_wp2_with (go_at_call 56; refine (HM.out _).mono ?_; rintro e w' ⟨rfl, hb⟩; have hc0 := box0 hb; have hc1 := box1 hb)
    go_ret
    exact ⟨rfl, ((Below.refl _ _).alloc (Nat.le_refl _) _).trans (hb.mono (by simp))⟩

end Go.Proofs.YtmjfopggehopjaaDoor.Ival
