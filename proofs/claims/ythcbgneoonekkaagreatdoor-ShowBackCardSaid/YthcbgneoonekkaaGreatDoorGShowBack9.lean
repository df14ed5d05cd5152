/-
  The walks of the landed rank, least, enclosed and levels. By an AI agent.
  The walk of the reference's word. By an AI agent.
  The table of the kinds' words, in its variable; how a row that lists it gives it. By an AI agent.
  The walks of the landed ival's endless and May. By an AI agent.
  The walk of the landed ival's Text. By an AI agent.
-/
import Derived.Test.YthcbgneoonekkaaGreatDoorGShowBack8
import Derived.BigQuiet
import Derived.Deep.QuietTactic
import Derived.Test.YthcbgneoonekkaaGreatDoorGShowBack4
import Derived.Test.YthcbgneoonekkaaGreatDoorGShowBack7
import Derived.Lib.LaidTab
import Derived.WalkSmall
import Derived.Test.YthcbgneoonekkaaGreatDoorGShowBack2
namespace Go.Proofs.YthcbgneoonekkaaGreatDoor.Show
open Go.RowKit Go.Proofs.YthcbgneoonekkaaGreatDoor.Tree Go.Proofs.YthcbgneoonekkaaGreatDoor.Ints
open Go.Proofs.YthcbgneoonekkaaGreatDoor.Parse (Blk Blk.new)

/-- A rank below that wants brackets. -/
def leastS (k : Int) (j : Nat) : Int := if k = 16 ∨ k = 17 then 0 else if k = 19 then 5 else rank k + (j : Int)
theorem enc_bare (k : Int) (j : Nat) (c : Int) (hk : 1 ≤ k ∧ k ≤ 22) (h : (kidc k = 1 ∧ j = 0) ∨ (kidc k = 2 ∧ j ≤ 1)) : decide (rank c < leastS k j) = !bare k j c := by
  have hr := rank_range c
  obtain ⟨r, hr0⟩ : ∃ r, rank c = r := ⟨_, rfl⟩
  rw [hr0] at hr
  have hw : k = 1 ∨ k = 2 ∨ k = 3 ∨ k = 4 ∨ k = 5 ∨ k = 6 ∨ k = 7 ∨ k = 8 ∨ k = 9 ∨ k = 10 ∨ k = 11 ∨ k = 12 ∨ k = 13 ∨ k = 14 ∨ k = 15 ∨ k = 16 ∨ k = 17 ∨ k = 18 ∨ k = 19 ∨ k = 20 ∨ k = 21 ∨ k = 22 := by omega
  unfold bare leastS
  rw [hr0, Bool.eq_iff_iff]
  rcases hw with rfl | rfl | rfl | rfl | rfl | rfl | rfl | rfl | rfl | rfl | rfl | rfl | rfl | rfl | rfl | rfl | rfl | rfl | rfl | rfl | rfl | rfl
  all_goals rcases h with ⟨h, hj⟩ | ⟨h, hj⟩
  all_goals first
    | (exfalso; revert h; decide)
    | (subst hj; simp [arity, none0, twos]; done)
    | (subst hj; simp [arity, none0, twos]; omega)
    | (simp [arity, rank, none0, twos]; omega)
    | (subst hj; simp [arity, rank, none0, twos]; omega)
set_option maxHeartbeats 4000000 in
theorem landRank (k : Int) (w : World) : Calls Tryz.prog 50 #[.int .i64 k] w fun e w' => e = .returned (.int .i64 (rank k)) ∧ w = w' := by
  rcases rank_ways k with h | ⟨a1, a2, a3, a4, a5, a6, a7, a8, a9, a10, a11, a12, a13, a14, a15, a16, a17, hr⟩
  · rcases h with rfl | rfl | rfl | rfl | rfl | rfl | rfl | rfl | rfl | rfl | rfl | rfl | rfl | rfl | rfl | rfl | rfl
    all_goals
      go_enter Tryz.func50, Tryz.ntmps50
      go_wp2
      go_ret
      exact ⟨rfl, rfl⟩
  · rw [hr]
    clear hr
    go_enter Tryz.func50, Tryz.ntmps50
    go_wp2
    go_ret
    exact ⟨rfl, rfl⟩
set_option maxHeartbeats 4000000 in
theorem landLeast (k : Int) (j : Nat) (w : World) (hj : j ≤ 1000) : Calls Tryz.prog 51 #[.int .i64 k, .int .i64 (j : Int)] w fun e w' => e = .returned (.int .i64 (leastS k j)) ∧ w = w' := by
  have hj' : (j : Int) ≤ 1000 := by omega
  have HK := Lib.hid (fun W => landRank k W)
  have H4 := Lib.hid (fun W => landRank 4 W)
  have hr := rank_range k
  unfold leastS
  by_cases h16 : k = 16 ∨ k = 17
  · rw [if_pos h16]
    rcases h16 with rfl | rfl
    all_goals
      go_enter Tryz.func51, Tryz.ntmps51
      go_wp2
      go_ret
      exact ⟨rfl, rfl⟩
  · rw [if_neg h16]
    have k16 : (k == 16) = false := beq_eq_false_iff_ne.2 (by omega)
    have k17 : (k == 17) = false := beq_eq_false_iff_ne.2 (by omega)
    by_cases h19 : k = 19
    · rw [if_pos h19]
      subst h19
      clear h16 k16 k17
      go_enter Tryz.func51, Tryz.ntmps51
      go_wp2_with (go_at_call 50; refine (H4.out _).mono ?_; rintro e w' ⟨rfl, rfl⟩)
      go_ret
      exact ⟨rfl, rfl⟩
    · rw [if_neg h19]
      have k19 : (k == 19) = false := beq_eq_false_iff_ne.2 h19
      obtain ⟨x, hx⟩ : ∃ x, rank k = x := ⟨_, rfl⟩
      rw [hx] at HK hr ⊢
      clear h16 h19 hx
      go_enter Tryz.func51, Tryz.ntmps51
      go_wp2_with (go_at_call 50; refine (HK.out _).mono ?_; rintro e w' ⟨rfl, rfl⟩)
      go_ret
      exact ⟨by first | rfl | (congr 2; omega), rfl⟩
theorem bel_drew1 (w : World) (n B : Nat) : Below B w (w.drewN n) := ⟨rfl, rfl, rfl, Nat.le_refl _, fun _ _ => rfl⟩
set_option maxHeartbeats 8000000 in
set_option maxRecDepth 100000 in
theorem landEnclosed (A : Option Addr) (n c : Nat) (l : List Nd) (nd : Nd) (K : Option Addr) (m cK j t : Nat) (nt : Nd) (w : World) (hl : l.length = n) (hn : n ≤ 1048576) (h : Nodes Any w A l)
    (hm : nd.kids.length = m) (hK : Rd .i64 w K m nd.kids) (hj : j < m) (hj2 : m ≤ 2) (ht : nd.kids[j]?.getD 0 = (t : Int)) (hnt : l[t]? = some nt) :
    Calls Tryz.prog 32 #[.slice A n c, .agg #[.int .i64 nd.kind, .string nd.name, .int .i64 nd.lo, .int .i64 nd.hi, .slice K m cK], .int .i64 (j : Int)] w fun e w' => e = .returned (.bool (decide (rank nt.kind < leastS nd.kind j))) ∧ Below w.heap.size w w' := by
  have HR := Lib.hid (fun W => landRank nt.kind W)
  have HS := Lib.hid (fun W => landLeast nd.kind j W (by omega))
  have htl : t < n := by rw [← hl]; exact (List.getElem?_eq_some_iff.1 hnt).1
  obtain ⟨b, off, rfl, hnodes⟩ := h (by omega)
  have y0 := (hnodes t nt hnt).1
  rw [Nat.mul_comm 5 t] at y0
  obtain ⟨bk, ok, rfl, hkc⟩ := hK.cell (by omega)
  have ck := hkc j hj
  rw [ht] at ck
  obtain ⟨kd, nm, lo, hi, ks⟩ := nd
  obtain ⟨x, hx⟩ : ∃ x, rank nt.kind = x := ⟨_, rfl⟩
  have hk0 : (⟨kd, nm, lo, hi, ks⟩ : Nd).kind = kd := rfl
  rw [hk0] at HS ⊢
  obtain ⟨y, hy⟩ : ∃ y, leastS kd j = y := ⟨_, rfl⟩
  rw [hx] at HR ⊢
  rw [hy] at HS ⊢
  have htn : (t : Int) < (n : Int) := by omega
  have ht0 : (0 : Int) ≤ (t : Int) := by omega
  have hjm : (j : Int) < (m : Int) := by omega
  have hj0 : (0 : Int) ≤ (j : Int) := by omega
  have HB := Lib.hid ((Below.refl w.heap.size w).alloc (Nat.le_refl _) (.cells #[.int .i64 kd, .string nm, .int .i64 lo, .int .i64 hi, .slice (some ⟨bk, ok, none⟩) m cK] 42))
  replace y0 := below_cell HB.out y0
  replace ck := below_cell HB.out ck
  clear hl hn hm hK hj2 ht hnt hnodes hkc hx hy hk0
  go_enter Tryz.func32, Tryz.ntmps32
  go_wp2_with fail
  go_quiet (first
    | (go_at_call 50; exact quiet_left ⟨_, rfl⟩ (HR.out _))
    | (go_at_call 51; exact quiet_left ⟨_, rfl⟩ (HS.out _)))
  go_wp2_with fail
  go_ret
  exact ⟨rfl, HB.out.trans (bel_drew1 _ _ _)⟩
set_option maxHeartbeats 8000000 in
set_option maxRecDepth 100000 in
theorem landLevels (A : Option Addr) (n c : Nat) (l : List Nd) (nd : Nd) (K : Option Addr) (m cK j t : Nat) (nt : Nd) (w : World) (hl : l.length = n) (hn : n ≤ 1048576) (h : Nodes Any w A l)
    (hm : nd.kids.length = m) (hK : Rd .i64 w K m nd.kids) (hj : j < m) (hj2 : m ≤ 2) (ht : nd.kids[j]?.getD 0 = (t : Int)) (hnt : l[t]? = some nt) :
    Calls Tryz.prog 33 #[.slice A n c, .agg #[.int .i64 nd.kind, .string nd.name, .int .i64 nd.lo, .int .i64 nd.hi, .slice K m cK], .int .i64 (j : Int)] w fun e w' =>
      e = .returned (.int .i64 ((if m = 1 ∧ nd.kind ≠ 22 then 1 else 0) + (if rank nt.kind < leastS nd.kind j then 1 else 0))) ∧ Below w.heap.size w w' := by
  have HE := Lib.hid (fun W (hb : Below w.heap.size w W) => landEnclosed A n c l nd K m cK j t nt W hl hn (h.below hb) hm (hK.below hb) hj hj2 ht hnt)
  obtain ⟨kd, nm, lo, hi, ks⟩ := nd
  have hk0 : (⟨kd, nm, lo, hi, ks⟩ : Nd).kind = kd := rfl
  have hk1 : (⟨kd, nm, lo, hi, ks⟩ : Nd).name = nm := rfl
  have hk2 : (⟨kd, nm, lo, hi, ks⟩ : Nd).lo = lo := rfl
  have hk3 : (⟨kd, nm, lo, hi, ks⟩ : Nd).hi = hi := rfl
  rw [hk0, hk1, hk2, hk3] at HE
  rw [hk0, hk1, hk2, hk3]
  have hb0 : Below w.heap.size w (w.alloc (.cells #[.int .i64 kd, .string nm, .int .i64 lo, .int .i64 hi, .slice K m cK] 42)) := (Below.refl w.heap.size w).alloc (Nat.le_refl _) _
  have HB := Lib.hid hb0
  clear hk0 hk1 hk2 hk3 hl hn h hm hK ht hnt hb0
  have hm64 : (m : Int) ≤ 2 := by omega
  have hm0 : (0 : Int) ≤ (m : Int) := by omega
  obtain ⟨x, hx⟩ : ∃ x, decide (rank nt.kind < leastS kd j) = x := ⟨_, rfl⟩
  have hif : (if rank nt.kind < leastS kd j then (1 : Int) else 0) = if x = true then 1 else 0 := by rw [← hx]; simp
  rw [hx] at HE
  rw [hif]
  clear hx hif
  by_cases h1 : m = 1
  · subst h1
    by_cases h22 : kd = 22
    · subst h22
      cases x
      all_goals
        go_enter Tryz.func33, Tryz.ntmps33
        go_wp2_with (go_at_call 32; refine (HE.out _ HB.out).mono ?_; rintro e w' ⟨rfl, hb⟩)
        go_ret
        exact ⟨rfl, HB.out.trans (hb.mono HB.out.size)⟩
    · have k22 : (kd == 22) = false := beq_eq_false_iff_ne.2 h22
      rw [if_pos ⟨rfl, h22⟩]
      clear h22
      cases x
      all_goals
        go_enter Tryz.func33, Tryz.ntmps33
        go_wp2_with (go_at_call 32; refine (HE.out _ HB.out).mono ?_; rintro e w' ⟨rfl, hb⟩)
        go_ret
        exact ⟨rfl, HB.out.trans (hb.mono HB.out.size)⟩
  · have m1 : ((m : Int) == 1) = false := beq_eq_false_iff_ne.2 (by omega)
    rw [if_neg (fun h => h1 h.1)]
    clear h1
    cases x
    all_goals
      go_enter Tryz.func33, Tryz.ntmps33
      go_wp2_with (go_at_call 32; refine (HE.out _ HB.out).mono ?_; rintro e w' ⟨rfl, hb⟩)
      go_ret
      exact ⟨rfl, HB.out.trans (hb.mono HB.out.size)⟩
end Go.Proofs.YthcbgneoonekkaaGreatDoor.Show

namespace Go.Proofs.YthcbgneoonekkaaGreatDoor.Show
open Go.RowKit Go.Proofs.YthcbgneoonekkaaGreatDoor.Tree Go.Proofs.YthcbgneoonekkaaGreatDoor.Itoa Go.Proofs.YthcbgneoonekkaaGreatDoor.Ints

theorem bytes_join (a : List UInt8) (s : ByteArray) : Lex.bytes (a ++ s.data.toList) = Lex.bytes a ++ s := by
  apply ByteArray.ext
  apply Array.toList_inj.1
  simp [Lex.bytes]
theorem bytes_self (s : ByteArray) : Lex.bytes s.data.toList = s := by
  apply ByteArray.ext
  apply Array.toList_inj.1
  simp [Lex.bytes]
theorem word_timed {kd : Int} {nm : ByteArray} {lo hi : Int} {ks : List Int} (h : timed kd = true) : word ⟨kd, nm, lo, hi, ks⟩ = words.getD (kd - 8).toNat [] ++ spanT lo hi := if_pos h
theorem box_cell {w w' : World} {cs : Array Value} {T : TypeId} (hb : Below (w.alloc (.cells cs T)).heap.size (w.alloc (.cells cs T)) w') (i : Nat) (v : Value) (hi : cs[i]? = some v) : w'.cell? ⟨w.heap.size, i, none⟩ = some v :=
  below_cell hb (by
    have h : (w.alloc (.cells cs T)).heap[w.heap.size]? = some (.cells cs T (0, 0)) := heap_alloc_new w (.cells cs T)
    unfold World.cell?
    simp only [h]
    exact hi)
end Go.Proofs.YthcbgneoonekkaaGreatDoor.Show

namespace Go.Proofs.YthcbgneoonekkaaGreatDoor.Show
open Go.RowKit Go.Proofs.YthcbgneoonekkaaGreatDoor.Tree Go.Proofs.YthcbgneoonekkaaGreatDoor.Itoa

def strTab : List (List UInt8) := [[], [116, 114, 117, 101], [102, 97, 108, 115, 101], [], [33], [38], [124], [45, 62], [112, 114, 101, 118], [110, 101, 120, 116], [111, 110, 99, 101], [104, 105, 115, 116], [115, 111, 109, 101], [97, 108, 108], [115, 105, 110, 99, 101], [117, 110, 116, 105, 108], [98, 97, 99, 107], [102, 111, 114, 101], [46], [63], [43], [59], [42]]
/-- The variable holds the words. -/
def WordsT (w : World) : Prop := w.var? Tryz.prog "watchglass/show.words" = some (strTab.map fun z => Value.string (Lex.bytes z)).toArray
theorem gWords : Tryz.prog.globalNamed "watchglass/show.words" = some 0 := by kernel_rfl
theorem WordsT.cell {w : World} (h : WordsT w) {i : Nat} (hi : i < 23) : w.cell? ⟨0, i, none⟩ = some (.string (Lex.bytes (strTab.getD i []))) := by
  have hl : i < strTab.length := hi
  rw [World.var?_cell gWords h i, List.getElem?_toArray, List.getElem?_map, List.getElem?_eq_getElem hl, List.getD_eq_getElem?_getD, List.getElem?_eq_getElem hl]
  rfl
theorem WordsT.later {w w' : World} (h : WordsT w) (hb : Below w.heap.size w w') : WordsT w' :=
  var?_below hb gWords (World.block_lt_of_cell? w _ (h.cell (i := 0) (by decide))) h
/-- Both tables. -/
def Tabs (w : World) : Prop := Tab10 w ∧ WordsT w
theorem Tabs.later {w w' : World} (h : Tabs w) (hb : Below w.heap.size w w') : Tabs w' := ⟨h.1.later hb, h.2.later hb⟩

def strData {H : Type} (zs : List (List UInt8)) : DataW H := .agg (zs.map fun z => .lit (.string z))
theorem cells_of_strs {H : Type} {enc : TypeId × Value → H} {P : Program} {w : World} {base : Nat} {sp : Nat → Bool} {held : Bool} {fuel : Nat} {t e : TypeId} {n : Nat} {cs : List Value} {zs : List (List UInt8)} {p : List MemPlace}
    (ht : P.underlying t = some (.array n e)) (he : P.underlying e = some .string) (hce : P.cellsOf e = 1) (hct : P.cellsOf t = n)
    (h : DataW.trod enc P w base sp held fuel t cs = some (strData zs, p)) : cs = zs.map fun z => Value.string (Lex.bytes z) := by
  cases fuel with
  | zero => simp [DataW.trod] at h
  | succ fuel =>
    simp only [DataW.trod, ht, hce, hct, Nat.mul_one] at h
    split at h
    · rename_i hl
      obtain ⟨xs, hm, hx⟩ := Option.map_eq_some_iff.1 h
      have hxs : xs.map (·.1) = zs.map fun z => (DataW.lit (.string z) : DataW H) := by
        have := congrArg Prod.fst hx
        simpa [strData] using this
      have hxl : xs.length = n := by simpa using Lib.mapM_length hm
      have hzl : zs.length = n := by
        have := congrArg List.length hxs
        simp at this
        omega
      apply List.ext_getElem?
      intro i
      by_cases hi : i < n
      · obtain ⟨b, hb, hf⟩ := Lib.mapM_at hm i i (by simp [hi])
        obtain ⟨z, hc, rfl, _⟩ := DataW.trod_string he hf
        have h1 : cs[i]? = some (.string z) := by
          have := congrArg (·[0]?) hc
          simpa [List.getElem?_take, List.getElem?_drop] using this
        have h2 : (xs.map (·.1))[i]? = some (DataW.lit (.string z.data.toList) : DataW H) := by simp [hb]
        rw [hxs] at h2
        simp only [List.getElem?_map, Option.map_eq_some_iff, DataW.lit.injEq, Lit.string.injEq] at h2
        obtain ⟨z', hz', rfl⟩ := h2
        rw [h1, List.getElem?_map, hz']
        rfl
      · rw [List.getElem?_eq_none (by omega), List.getElem?_eq_none (by simp; omega)]
    · cases h
theorem words_of_head {W : World} {rest : List (String × DataW Unit)} {t e : TypeId}
    (hty : (Tryz.prog.globals[0]?).map (·.type) = some t) (ht : Tryz.prog.underlying t = some (.array 23 e)) (he : Tryz.prog.underlying e = some .string) (hce : Tryz.prog.cellsOf e = 1) (hct : Tryz.prog.cellsOf t = 23)
    (h : laidMet Tryz.prog (("watchglass/show.words", strData strTab) :: rest) W) : WordsT W := by
  obtain ⟨ps, ⟨g', t', cs, fuel, p, q, hg', ht', hvar, hd, _, _⟩, _⟩ := h
  obtain rfl := Option.some.inj (gWords.symm.trans hg')
  obtain rfl := Option.some.inj (hty.symm.trans ht')
  unfold WordsT
  rw [hvar, ← cells_of_strs ht he hce hct hd]
end Go.Proofs.YthcbgneoonekkaaGreatDoor.Show

namespace Go.Proofs.YthcbgneoonekkaaGreatDoor.Ival
open Go.RowKit

theorem progEndless (lo hi : Int) (w : World) :
    Calls Tryz.prog 83 #[span lo hi] w fun e w' => e = .returned (.bool (hi == -1)) ∧ Below w.heap.size w w' := by
  go_enter Tryz.func83, Tryz.ntmps83
  go_wp2
  go_ret
  exact ⟨rfl, (Below.refl _ _).alloc (Nat.le_refl _) _⟩

theorem progMay (lo hi : Int) (w : World) :
    Calls Tryz.prog 66 #[span lo hi] w fun e w' => e = .returned (.bool (mayS lo hi)) ∧ Below w.heap.size w w' := by
  have he := fun W => progEndless lo hi W
  rcases may_cases lo hi with ⟨h1, h⟩ | ⟨h1, h2, h⟩ | ⟨h1, h2, h3, h⟩ | ⟨h1, h2, h3, h4, h⟩ | ⟨h1, h2, h3, h4, h5, h⟩ | ⟨h1, h2, h3, h4, h5, h⟩
  case' inr.inr.inl =>
    subst h3
    have h3 : ((-1 : Int) == -1) = true := rfl
  case' inr.inr.inl | inr.inr.inr.inl | inr.inr.inr.inr.inl | inr.inr.inr.inr.inr =>
    rw [h3] at he
  all_goals
    rw [h]
    clear h
    have HE := Lib.hid he
    clear he
    go_enter Tryz.func66, Tryz.ntmps66
    go_wp2_with (go_at_call 83; refine (HE.out _).mono ?_; rintro e w' ⟨rfl, hb⟩; have hc0 := box0 hb; have hc1 := box1 hb)
    go_ret
    first
      | exact ⟨rfl, ((Below.refl _ _).alloc (Nat.le_refl _) _).trans (hb.mono (by simp))⟩
      | exact ⟨rfl, (Below.refl _ _).alloc (Nat.le_refl _) _⟩

end Go.Proofs.YthcbgneoonekkaaGreatDoor.Ival

namespace Go.Proofs.YthcbgneoonekkaaGreatDoor.Ival
open Go.RowKit Go.Proofs.YthcbgneoonekkaaGreatDoor.Itoa

/-- The end, as it is written. -/
def endS (hi : Int) : ByteArray := if hi = -1 then { data := #[42] } else dec hi

theorem progEndText (lo hi : Int) (w : World) (h9 : hi = -1 ∨ 0 ≤ hi ∧ hi ≤ 9999) (hT : Tab10 w) :
    Calls Tryz.prog 85 #[span lo hi] w fun e w' => e = .returned (.string (endS hi)) ∧ Below w.heap.size w w' := by
  have he := fun W => progEndless lo hi W
  unfold endS
  by_cases h1 : hi = -1
  · subst h1
    rw [if_pos rfl]
    rw [show ((-1 : Int) == -1) = true from rfl] at he
    have HE := Lib.hid he
    clear he
    go_enter Tryz.func85, Tryz.ntmps85
    go_wp2_with (go_at_call 83; refine (HE.out _).mono ?_; rintro e w' ⟨rfl, hb⟩; have hc0 := box0 hb; have hc1 := box1 hb)
    go_ret
    exact ⟨rfl, ((Below.refl _ _).alloc (Nat.le_refl _) _).trans (hb.mono (by simp))⟩
  · rw [if_neg h1]
    rw [show (hi == -1) = false by simp [h1]] at he
    have HE := Lib.hid he
    have hr : -9223372036854775808 ≤ hi ∧ hi ≤ 9223372036854775807 := by omega
    have HT := Lib.hid (fun o W (hb : Below (w.alloc o).heap.size (w.alloc o) W) => (hT.later (((Below.refl _ _).alloc (Nat.le_refl _) o).trans (hb.mono (by simp)))))
    clear he h1 h9
    go_enter Tryz.func85, Tryz.ntmps85
    go_wp2_with (first
      | (go_at_call 83; refine (HE.out _).mono ?_; rintro e w' ⟨rfl, hb⟩; have hc0 := box0 hb; have hc1 := box1 hb)
      | (go_at_call 84; refine (itoa hi _ hr (HT.out _ _ hb)).mono ?_; rintro e w2 ⟨rfl, hb2⟩))
    go_ret
    exact ⟨rfl, (((Below.refl _ _).alloc (Nat.le_refl _) _).trans (hb.mono (by simp))).trans (hb2.mono (by have := hb.size; simp at this; omega))⟩

theorem endS_size (hi : Int) (h9 : hi = -1 ∨ 0 ≤ hi ∧ hi ≤ 9999) : (endS hi).size ≤ 21 := by
  unfold endS
  split
  · decide
  · exact dec_size hi (by omega)
theorem open_end (A : ByteArray) : A ++ { data := #[44, 42, 93] } = A ++ { data := #[44] } ++ { data := #[42] } ++ { data := #[93] } := by
  rw [ByteArray.append_assoc, ByteArray.append_assoc]
  rfl
theorem text_end {lo hi : Int} (h : mayS lo hi = true) : textS lo hi = { data := #[91] } ++ dec lo ++ { data := #[44] } ++ endS hi ++ { data := #[93] } := by
  unfold textS endS
  rw [if_pos h]
  split
  · exact open_end _
  · rfl

set_option maxHeartbeats 1000000 in
theorem progText (lo hi : Int) (w : World) (hT : Tab10 w) :
    Calls Tryz.prog 67 #[span lo hi] w fun e w' => e = .returned (.string (textS lo hi)) ∧ Below w.heap.size w w' := by
  have hm := fun W => progMay lo hi W
  rcases Bool.eq_false_or_eq_true (mayS lo hi) with h | h
  · rw [text_end h]
    obtain ⟨h1, h2, h3⟩ := may_parts h
    have h9 : hi = -1 ∨ 0 ≤ hi ∧ hi ≤ 9999 := by omega
    have he := fun W (hW : Tab10 W) => progEndText lo hi W h9 hW
    have hd2 := endS_size hi h9
    have hd := dec_size lo (by omega)
    have hr : -9223372036854775808 ≤ lo ∧ lo ≤ 9223372036854775807 := by omega
    rw [h] at hm
    obtain ⟨t, ht⟩ : ∃ t, endS hi = t := ⟨_, rfl⟩
    rw [ht] at he hd2 ⊢
    have HM := Lib.hid hm
    have HE := Lib.hid he
    have HT := Lib.hid (fun o W (hb : Below (w.alloc o).heap.size (w.alloc o) W) => (hT.later (((Below.refl _ _).alloc (Nat.le_refl _) o).trans (hb.mono (by simp)))))
    clear hm h he ht h1 h2 h3 h9
    go_enter Tryz.func67, Tryz.ntmps67
    go_wp2_with (go_at_call 66; refine (HM.out _).mono ?_; rintro e w' ⟨rfl, hb⟩; have hc0 := box0 hb; have hc1 := box1 hb)
    have hT1 := HT.out _ _ hb
    have hsz : w.heap.size ≤ w'.heap.size := by have := hb.size; simp at this; omega
    have HB := Lib.hid (((Below.refl w.heap.size w).alloc (Nat.le_refl _) _).trans (hb.mono (by simp)))
    clear hb HT HM
    go_region_with (first
      | (go_at_call 85; refine (HE.out _ (by first | exact hT1.later hb2 | exact (hT1.later (below_drewN (Below.refl _ _) _)).later hb2 | exact (show Tab10 _ from hT1).later hb2)).mono ?_; rintro e w3 ⟨rfl, hb3⟩)
      | (go_at_call 84; refine (itoa lo _ hr (by first | exact hT1 | exact hT1.later (below_drewN (Below.refl _ _) _))).mono ?_; rintro e w2 ⟨rfl, hb2⟩; have hc2 := keep_cell hb2 hc0; have hc3 := keep_cell hb2 hc1))
    all_goals
      go_wp2
      go_ret
      exact ⟨rfl, ((HB.out.drew).trans (hb2.mono hsz)).trans (hb3.mono (Nat.le_trans hsz hb2.size))⟩
  · rw [show textS lo hi = { data := #[] } by unfold textS; rw [h]; rfl]
    rw [h] at hm
    have HM := Lib.hid hm
    clear hm h
    go_enter Tryz.func67, Tryz.ntmps67
    go_wp2_with (go_at_call 66; refine (HM.out _).mono ?_; rintro e w' ⟨rfl, hb⟩; have hc0 := box0 hb; have hc1 := box1 hb)
    go_ret
    exact ⟨rfl, ((Below.refl _ _).alloc (Nat.le_refl _) _).trans (hb.mono (by simp))⟩

end Go.Proofs.YthcbgneoonekkaaGreatDoor.Ival
