/-
  The walk of the reference's Names. Sorted and compacted is sorted without doubles, whichever way it was collected.
  Made of several texts by wip/tools/mergetpl.py. By an AI agent.
-/
import Derived.Test.YtmahbocelckmcaaTreeRef2
import Derived.Test.YtmahbocelckmcaaIntsAt
import Derived.Test.YtmahbocelckmcaaShelf
import Derived.Sort.OwnSorted
import Derived.Lib.RowBridge

/- The walk of the reference's Names. By an AI agent. -/
namespace Go.Proofs.Ytmahbocelckmcaa.Tree
open Go.RowKit Go.Sort Go.Proofs.Ytmahbocelckmcaa.Ints

/-- The slice of address A reads as the texts l. -/
def Strs (w : World) (A : Option Addr) (l : List (List UInt8)) : Prop :=
  0 < l.length → ∃ b off, A = some ⟨b, off, none⟩ ∧ ∀ (j : Nat) (s : List UInt8), l[j]? = some s → w.cell? ⟨b, off + j, none⟩ = some (encStr s)
theorem Strs.below {w w' : World} {A : Option Addr} {l : List (List UInt8)} (h : Strs w A l) (hb : Below w.heap.size w w') : Strs w' A l := fun h0 => by
  obtain ⟨b, off, h1, h2⟩ := h h0
  exact ⟨b, off, h1, fun j s hs => below_cell hb (h2 j s hs)⟩
def GotStrs (w : World) (l : List (List UInt8)) (e : Ending) (w' : World) : Prop :=
  ∃ A c, e = .returned (.slice A l.length c) ∧ Strs w' A l ∧ l.length ≤ c ∧ c ≤ maxLen ∧ Below w.heap.size w w'
theorem GotStrs.none0 {w w' : World} (hb : Below w.heap.size w w') : GotStrs w [] (.returned (.slice none 0 0)) w' := ⟨none, 0, rfl, fun h => by simp at h, Nat.le_refl _, by decide, hb⟩
theorem strs_own {w : World} {base : Nat} {e : TypeId} {A : Option Addr} {n c : Nat} {l : List (List UInt8)} (h : w.ownsRow base e 1 (.slice A n c) n (l.map encStr)) : l.length = n ∧ Strs w A l ∧ n ≤ c ∧ c ≤ maxLen := by
  have hl : l.length = n := by simpa using h.1
  obtain ⟨A', c', e1, h1, h2, -⟩ := own_slice h
  injection e1 with e1 _ e3
  subst e1; subst e3
  refine ⟨hl, fun h0 => ?_, h1, h2⟩
  obtain ⟨g, cap, e4, -⟩ := own_form h (by omega)
  injection e4 with e4 _ e5
  subst e4; subst e5
  refine ⟨g, 0, rfl, fun j s hs => ?_⟩
  have hj : j < l.length := (List.getElem?_eq_some_iff.1 hs).1
  rw [Nat.zero_add, h.cellAt j (by omega), List.getElem?_map, hs]
  rfl
theorem enc_name (n : ByteArray) : (Value.string n) = encStr n.data.toList := by
  obtain ⟨⟨l⟩⟩ := n
  rfl
theorem names_next {l : List Nd} {k : Nat} {n : Nd} (h : l[k]? = some n) : propNames (l.take (k + 1)) = nameNext (propNames (l.take k)) n := by
  obtain ⟨hk, rfl⟩ := List.getElem?_eq_some_iff.1 h
  unfold propNames
  rw [List.take_succ_eq_append_getElem hk, List.foldl_append]
  rfl
theorem names_len (l : List Nd) (k : Nat) : (propNames (l.take k)).length ≤ k := by
  induction k with
  | zero => simp [propNames]
  | succ k ih =>
    by_cases hk : k < l.length
    · rw [names_next (List.getElem?_eq_getElem hk)]
      unfold nameNext
      split
      · rw [List.length_append]; simp; omega
      · omega
    · have e1 : l.take (k + 1) = l := List.take_of_length_le (by omega)
      have e2 : l.take k = l := List.take_of_length_le (by omega)
      rw [e1]
      rw [e2] at ih
      omega
/-- slices.Contains, at a row of one's own. -/
theorem containsStr (A : Option Addr) (n c : Nat) (l : List (List UInt8)) (x : ByteArray) (w : World) (hl : l.length = n) (hn : n ≤ 1048576) (h : Strs w A l) :
    Calls Try.prog 57 #[.slice A n c, .string x] w fun e w' => e = .returned (.bool (decide (x.data.toList ∈ l))) ∧ w' = w := by
  subst hl
  by_cases h0 : l.length = 0
  · have : l = [] := List.eq_nil_of_length_eq_zero h0
    subst this
    exact Try.slices_Contains_string_empty A c x w
  · obtain ⟨b, off, rfl, hc⟩ := h (by omega)
    refine (Try.slices_Contains_string b off l.length c (l.map fun s => (⟨s.toArray⟩ : ByteArray)) x w (by rw [List.length_map]; exact Nat.le_refl _) (by omega) (fun j hj => ?_)).mono fun e w' ⟨he, hw⟩ => ⟨?_, hw⟩
    · rw [List.length_map] at hj
      rw [hc j _ (List.getElem?_eq_getElem hj)]
      simp [List.getD, hj]
    · rw [he, List.take_of_length_le (by rw [List.length_map]; exact Nat.le_refl _)]
      congr 2
      rw [Bool.eq_iff_iff, Lib.containsS_iff, decide_eq_true_iff, List.mem_map]
      constructor
      · rintro ⟨s, hs, rfl⟩; exact hs
      · intro hx
        refine ⟨x.data.toList, hx, ?_⟩
        obtain ⟨⟨y⟩⟩ := x
        rfl
theorem infoStr : (Try.prog.info? 9).map (fun i => (i.zero, i.size, i.bytes)) = some (some (.string { data := #[] }), 1, 16) := by kernel_rfl

set_option maxHeartbeats 8000000 in
set_option maxRecDepth 100000 in
theorem refNames (A : Option Addr) (n c : Nat) (l : List Nd) (w : World) (hl : l.length = n) (hn : n ≤ 1048576) (h : Nodes Any w A l) :
    Calls Try.prog 32 #[.slice A n c] w (GotStrs w (namesL l)) := by
  obtain ⟨i0, hi, hz0, hz1, hz2⟩ := info_parts infoStr
  have hni : (n : Int) ≤ 1048576 := by omega
  have hM := fun W (hb : Below w.heap.size w W) => refMay A n c l W hl hn (h.below hb)
  have HL := Lib.hid hl
  have HD := Lib.hid h
  have HN := Lib.hid hn
  clear hl hn h
  rcases hm : mayL l
  · have HR := Lib.hid (show namesL l = [] by unfold namesL; rw [hm]; rfl)
    rw [hm] at hM
    have HM := Lib.hid hM
    clear hM hm
    go_enter Try.func32, Try.ntmps32
    go_wp2_with (go_at_call 26; refine (HM.out _ (Below.refl _ _)).mono ?_; rintro e w1 ⟨rfl, hb1⟩)
    go_ret
    rw [HR.out]
    exact GotStrs.none0 hb1
  · have HR := Lib.hid (show namesL l = (propNames l).mergeSort (fun x y => decide (x ≤ y)) by unfold namesL; rw [if_pos hm])
    rw [hm] at hM
    have HM := Lib.hid hM
    clear hM hm
    go_enter Try.func32, Try.ntmps32
    go_wp2_with (go_at_call 26; refine (HM.out _ (Below.refl _ _)).mono ?_; rintro e w1 ⟨rfl, hb1⟩)
    have HB1 := Lib.hid hb1
    clear hb1
    go_loopw [3, 11] (fun v i wr => ∃ k : Nat, k ≤ n ∧ i = .int .i64 k ∧ wr.ownsRow w.heap.size 9 1 v (propNames (l.take k)).length ((propNames (l.take k)).map encStr) ∧ Below w.heap.size w wr) (fun _ i _ => n - (intOf i).toNat)
    case atStart => exact ⟨0, Nat.zero_le _, rfl, by rw [List.take_zero]; exact World.ownsRow_nil _ _ _ _, HB1.out⟩
    case round =>
      obtain ⟨k, hk, rfl, hrow, hB⟩ := hrel
      have hol := names_len l k
      obtain ⟨out, ho⟩ : ∃ out, propNames (l.take k) = out := ⟨_, rfl⟩
      rw [ho] at hrow hol
      obtain ⟨q, hq⟩ : ∃ q, out.length = q := ⟨_, rfl⟩
      rw [hq] at hrow hol
      obtain ⟨V, cV, rfl, -, -, -, -⟩ := own_slice hrow
      have HO := Lib.hid ho
      have HQ := Lib.hid hq
      have HRW := Lib.hid hrow
      have HB := Lib.hid hB
      clear hrow hB ho hq
      by_cases hkn : k < n
      · have hkn' : (k : Int) < (n : Int) := by omega
        obtain ⟨b, off, e, hnodes⟩ := (HD.out.below HB.out) (by have := HL.out; omega)
        obtain ⟨nd, hnd⟩ : ∃ nd, l[k]? = some nd := ⟨_, List.getElem?_eq_getElem (by have := HL.out; omega)⟩
        obtain ⟨x0, x1, x2, x3, s0, s2, s3, s1, K, cK, x4, hK, hKc, hcK, -, -⟩ := hnodes k nd hnd
        rw [Nat.mul_comm 5 k] at x0 x1 x2 x3 x4
        have HNX := Lib.hid (names_next hnd)
        subst e
        have HC := Lib.hid (fun W (hw : Below wr.heap.size wr W) => containsStr V q cV out nd.name W HQ.out (by have := HN.out; omega) ((strs_own HRW.out).2.1.below hw))
        clear hnd hnodes hK s0 s1 s2 s3
        by_cases h3 : nd.kind = 3
        · have h3' : (nd.kind == 3) = true := by rw [h3]; rfl
          by_cases hin : nd.name.data.toList ∈ out
          · have HP := Lib.hid (show propNames (l.take (k + 1)) = out by rw [HNX.out, HO.out]; unfold nameNext; rw [if_neg (by rintro ⟨-, h⟩; exact h hin)])
            rw [decide_eq_true hin] at HC
            clear h3 hin
            go_wp2_with (go_at_call 57; refine (HC.out _ ((Below.refl _ _).alloc (Nat.le_refl _) _)).mono ?_; rintro e w' ⟨rfl, rfl⟩)
            go_roundw
            case rel => exact ⟨k + 1, by omega, by go_num, by rw [HP.out, HQ.out]; exact HRW.out.alloc _, HB.out.alloc HB.out.size _⟩
            case measure => simp [intOf]; omega
          · have HP := Lib.hid (show propNames (l.take (k + 1)) = out ++ [nd.name.data.toList] by rw [HNX.out, HO.out]; unfold nameNext; rw [if_pos ⟨h3, hin⟩])
            rw [decide_eq_false hin] at HC
            have HQL := Lib.hid (show q ≤ 1048576 by omega)
            have HZ1 := Lib.hid (show ∀ o : Obj, (wr.alloc o).heap.size = wr.heap.size + 1 from fun o => by simp)
            clear h3 hin
            go_wp2_with (first
              | (go_at_call 57; refine (HC.out _ ((Below.refl _ _).alloc (Nat.le_refl _) _)).mono ?_; rintro e w' ⟨rfl, rfl⟩)
              | (at_builtin; refine wpList_append_one rfl (.tmp 25) (.tmp 28) 44 rfl w.heap.size 9 i0 _ 16 Try.underlying44 hi hz0 hz1 hz2 rfl (by decide) _ q _ (by rfl) (HRW.out.alloc _) (.string nd.name) rfl _ _ rfl (wr.heap.size + 1) (HZ1.out _) (by rfl) HQL.out (le_alloc HB.out.size) ?_; intro v3 w3 hown3 hgr3 _))
            go_roundw
            case rel => exact ⟨k + 1, by omega, by go_num, by
              rw [HP.out, List.length_append, HQ.out, List.map_append]
              rw [enc_name] at hown3
              exact hown3, (((HB.out.alloc HB.out.size _).alloc (le_alloc HB.out.size) _).grown hgr3 (le_alloc (le_alloc HB.out.size)) (fun z hz => (HRW.out.lt z hz).1))⟩
            case measure => simp [intOf]; omega
        · have h3' : (nd.kind == 3) = false := beq_eq_false_iff_ne.2 h3
          have HP := Lib.hid (show propNames (l.take (k + 1)) = out by rw [HNX.out, HO.out]; unfold nameNext; rw [if_neg (by rintro ⟨h, -⟩; exact h3 h)])
          clear h3
          go_wp2
          go_roundw
          case rel => exact ⟨k + 1, by omega, by go_num, by rw [HP.out, HQ.out]; exact HRW.out.alloc _, HB.out.alloc HB.out.size _⟩
          case measure => simp [intOf]; omega
      · have hge : decide ((k : Int) < (n : Int)) = false := by simp; omega
        have hkl : l.take k = l := List.take_of_length_le (by have := HL.out; omega)
        have HO2 := Lib.hid (show propNames l = out by rw [← hkl]; exact HO.out)
        clear hkl
        by_cases hq0 : q = 0
        · have ho0 : out = [] := List.eq_nil_of_length_eq_zero (by rw [HQ.out]; exact hq0)
          have HE := Lib.hid (show namesL l = [] by rw [HR.out, HO2.out, ho0]; simp)
          have HS := Lib.hid (fun W => Try.slices_Sort_string_none V cV W)
          have hV := (strs_own HRW.out).2
          subst hq0
          have HV := Lib.hid hV
          clear ho0 hV
          go_wp2_with (go_at_call 46; refine (HS.out _).mono ?_; rintro e w' ⟨rfl, rfl⟩)
          go_ret
          rw [HE.out]
          exact ⟨_, _, rfl, fun h => by simp at h, HV.out.2.1, HV.out.2.2, HB.out⟩
        · obtain ⟨ts, hts⟩ : ∃ ts, out.mergeSort (fun x y => decide (x ≤ y)) = ts := ⟨_, rfl⟩
          have htl : ts.length = out.length := by rw [← hts]; simp
          have HE := Lib.hid (show namesL l = ts by rw [HR.out, HO2.out, hts])
          have hrow := HRW.out
          rcases hrow.2 with ⟨-, h0⟩ | ⟨g, cap, cur, eV, hbase, hb, h1, h2, h3, h4⟩
          · exact absurd h0 hq0
          · injection eV with eV _ eC
            subst eV; subst eC
            rw [Nat.mul_one] at h4
            have hS := Try.slices_Sort_string g 0 cV out wr (holds_of_block hb (by rw [HQ.out]; exact h4)) (Array.getElem?_eq_some_iff.1 hb).1 (by rw [HQ.out]; have := HN.out; omega)
            rw [hts, HQ.out] at hS
            have HS := Lib.hid hS
            have HOW := Lib.hid (fun (m : Nat) (os : Array Obj) => ownsRow_sorted (n := m) (os := os) htl hbase hb (by rw [HQ.out]; exact h1) h2 h3)
            have HGR := Lib.hid (fun (m : Nat) (os : Array Obj) => grownBy_sorted (w := wr) (g := g) (n := m) (os := os) ts.toArray)
            have HTL := Lib.hid htl
            have HBG := Lib.hid hbase
            clear hrow hb h1 h2 h3 h4 hS hts htl hbase
            go_wp2_with (go_at_call 46; refine HS.out.mono ?_; rintro e w' ⟨rfl, m, os, rfl⟩)
            go_ret
            have hown := HOW.out m os
            rw [HQ.out] at hown
            obtain ⟨k1, k2, k3, k4⟩ := strs_own hown
            rw [HE.out]
            exact ⟨_, _, by rw [k1]; rfl, k2, by rw [k1]; exact k3, k4, HB.out.grown (HGR.out m os) HB.out.size (fun z hz => by injection hz with hz; have := HBG.out; omega)⟩
end Go.Proofs.Ytmahbocelckmcaa.Tree

/- Sorted and compacted is sorted without doubles, whichever way it was collected. By an AI agent. -/
namespace Go.Proofs.Ytmahbocelckmcaa.Tree
open Go.RowKit Go.Lib

def strLe (x y : List UInt8) : Bool := decide (x ≤ y)
theorem strLe_trans (a b c : List UInt8) (h1 : strLe a b = true) (h2 : strLe b c = true) : strLe a c = true := by
  simp only [strLe, decide_eq_true_eq] at *; exact List.le_trans h1 h2
theorem strLe_total (a b : List UInt8) : (strLe a b || strLe b a) = true := by
  simp only [strLe, Bool.or_eq_true, decide_eq_true_eq]; exact List.le_total a b
theorem strLe_anti {a b : List UInt8} (h1 : strLe a b = true) (h2 : strLe b a = true) : a = b := by
  simp only [strLe, decide_eq_true_eq] at *; exact List.le_antisymm h1 h2
/-- What compact leaves of the first m of a sorted row. -/
theorem compact_upto (d : Array (List UInt8)) (hs : ∀ i j, i < j → j < d.size → strLe d[i]! d[j]! = true) : ∀ m, m ≤ d.size → (∀ x, x ∈ compactUpTo d m ↔ ∃ j, j < m ∧ d[j]! = x) ∧ (compactUpTo d m).Nodup ∧ (compactUpTo d m).Pairwise (fun x y => strLe x y = true) := by
  intro m
  induction m with
  | zero => intro _; refine ⟨fun x => ?_, ?_, ?_⟩ <;> simp [compactUpTo]
  | succ m ih =>
    intro hm
    obtain ⟨h1, h2, h3⟩ := ih (by omega)
    rw [compactUpTo_succ]
    have hle : ∀ x ∈ compactUpTo d m, strLe x d[m]! = true := fun x hx => by
      obtain ⟨j, hj, rfl⟩ := (h1 x).1 hx
      exact hs j m hj (by omega)
    by_cases hk : keeps d m = true
    · rw [if_pos hk]
      have hnew : d[m]! ∉ compactUpTo d m := fun hx => by
        obtain ⟨j, hj, e⟩ := (h1 _).1 hx
        have hk' : m = 0 ∨ d[m]! ≠ d[m - 1]! := of_decide_eq_true hk
        rcases hk' with h | h
        · omega
        · have e1 : strLe d[m - 1]! d[m]! = true := hs (m - 1) m (by omega) (by omega)
          have e2 : strLe d[m]! d[m - 1]! = true := by
            by_cases hj' : j = m - 1
            · subst hj'; rw [← e]; have := strLe_total d[m - 1]! d[m - 1]!; simpa using this
            · rw [← e]; exact hs j (m - 1) (by omega) (by omega)
          exact h (strLe_anti e2 e1)
      refine ⟨fun x => ?_, ?_, ?_⟩
      · rw [List.mem_append, h1, List.mem_singleton]
        constructor
        · rintro (⟨j, hj, e⟩ | e)
          · exact ⟨j, by omega, e⟩
          · exact ⟨m, by omega, e.symm⟩
        · rintro ⟨j, hj, e⟩
          by_cases hjm : j = m
          · subst hjm; exact Or.inr e.symm
          · exact Or.inl ⟨j, by omega, e⟩
      · rw [List.nodup_append]
        refine ⟨h2, by simp, fun a ha b hb e => ?_⟩
        rw [List.mem_singleton.1 hb] at e
        rw [e] at ha
        exact hnew ha
      · rw [List.pairwise_append]
        exact ⟨h3, by simp, fun a ha b hb => by rw [List.mem_singleton.1 hb]; exact hle a ha⟩
    · rw [if_neg hk, List.append_nil]
      have hm0 : ¬ (m = 0 ∨ d[m]! ≠ d[m - 1]!) := fun h => hk (decide_eq_true h)
      have hpos : m ≠ 0 := fun h => hm0 (Or.inl h)
      have heq : d[m]! = d[m - 1]! := by
        by_cases h : d[m]! = d[m - 1]!
        · exact h
        · exact absurd (Or.inr h) hm0
      refine ⟨fun x => ?_, h2, h3⟩
      rw [h1]
      constructor
      · rintro ⟨j, hj, e⟩; exact ⟨j, by omega, e⟩
      · rintro ⟨j, hj, e⟩
        by_cases hjm : j = m
        · subst hjm; exact ⟨j - 1, by omega, by rw [← heq]; exact e⟩
        · exact ⟨j, by omega, e⟩
theorem compact_sorted {zs : List (List UInt8)} (h : zs.Pairwise (fun x y => strLe x y = true)) : (∀ x, x ∈ compact zs ↔ x ∈ zs) ∧ (compact zs).Nodup ∧ (compact zs).Pairwise (fun x y => strLe x y = true) := by
  have hat : ∀ j, j < zs.length → zs.toArray[j]! = zs[j]?.getD default := fun j hj => by simp [hj]
  obtain ⟨h1, h2, h3⟩ := compact_upto zs.toArray (fun i j hij hj => by
    have hj' : j < zs.length := by simpa using hj
    rw [hat i (by omega), hat j hj', List.getElem?_eq_getElem (by omega), List.getElem?_eq_getElem hj']
    exact (List.pairwise_iff_getElem.1 h) i j (by omega) hj' hij) zs.length (by simp)
  refine ⟨fun x => ?_, h2, h3⟩
  show x ∈ compactUpTo zs.toArray zs.length ↔ _
  rw [h1]
  constructor
  · rintro ⟨j, hj, rfl⟩
    rw [hat j hj, List.getElem?_eq_getElem hj]
    exact List.getElem_mem hj
  · intro hx
    obtain ⟨j, hj, rfl⟩ := List.getElem_of_mem hx
    exact ⟨j, hj, by rw [hat j hj, List.getElem?_eq_getElem hj]; rfl⟩
/-- All names, one behind the other. -/
def allNames (l : List Nd) : List (List UInt8) := (l.filter fun n => n.kind == 3).map fun n => n.name.data.toList
theorem names_spec (l : List Nd) : (∀ x, x ∈ propNames l ↔ ∃ n ∈ l, n.kind = 3 ∧ n.name.data.toList = x) ∧ (propNames l).Nodup := by
  have key : ∀ (l : List Nd) (out : List (List UInt8)), out.Nodup → (∀ x, x ∈ l.foldl nameNext out ↔ x ∈ out ∨ ∃ n ∈ l, n.kind = 3 ∧ n.name.data.toList = x) ∧ (l.foldl nameNext out).Nodup := by
    intro l
    induction l with
    | nil => intro out h; refine ⟨fun x => ?_, h⟩; simp
    | cons n l ih =>
      intro out h
      rw [List.foldl_cons]
      by_cases hc : n.kind = 3 ∧ n.name.data.toList ∉ out
      · have e : nameNext out n = out ++ [n.name.data.toList] := by unfold nameNext; rw [if_pos hc]
        rw [e]
        have hn : (out ++ [n.name.data.toList]).Nodup := by
          rw [List.nodup_append]
          refine ⟨h, by simp, fun a ha b hb e => ?_⟩
          rw [List.mem_singleton.1 hb] at e
          rw [e] at ha
          exact hc.2 ha
        obtain ⟨i1, i2⟩ := ih _ hn
        refine ⟨fun x => ?_, i2⟩
        rw [i1, List.mem_append, List.mem_singleton]
        constructor
        · rintro ((h1 | h1) | ⟨m, hm, h2⟩)
          · exact Or.inl h1
          · exact Or.inr ⟨n, List.mem_cons_self, hc.1, h1.symm⟩
          · exact Or.inr ⟨m, List.mem_cons_of_mem _ hm, h2⟩
        · rintro (h1 | ⟨m, hm, h2⟩)
          · exact Or.inl (Or.inl h1)
          · rcases List.mem_cons.1 hm with rfl | hm
            · exact Or.inl (Or.inr h2.2.symm)
            · exact Or.inr ⟨m, hm, h2⟩
      · have e : nameNext out n = out := by unfold nameNext; rw [if_neg hc]
        rw [e]
        obtain ⟨i1, i2⟩ := ih _ h
        refine ⟨fun x => ?_, i2⟩
        rw [i1]
        constructor
        · rintro (h1 | ⟨m, hm, h2⟩)
          · exact Or.inl h1
          · exact Or.inr ⟨m, List.mem_cons_of_mem _ hm, h2⟩
        · rintro (h1 | ⟨m, hm, h2⟩)
          · exact Or.inl h1
          · rcases List.mem_cons.1 hm with rfl | hm
            · by_cases hin : m.name.data.toList ∈ out
              · exact Or.inl (h2.2 ▸ hin)
              · exact absurd ⟨h2.1, hin⟩ hc
            · exact Or.inr ⟨m, hm, h2⟩
  obtain ⟨k1, k2⟩ := key l [] (by simp)
  refine ⟨fun x => ?_, k2⟩
  have := k1 x
  simpa [propNames] using this
theorem mem_allNames (l : List Nd) (x : List UInt8) : x ∈ allNames l ↔ ∃ n ∈ l, n.kind = 3 ∧ n.name.data.toList = x := by
  unfold allNames
  simp only [List.mem_map, List.mem_filter, beq_iff_eq]
  constructor
  · rintro ⟨n, ⟨h1, h2⟩, h3⟩; exact ⟨n, h1, h2, h3⟩
  · rintro ⟨n, h1, h2, h3⟩; exact ⟨n, ⟨h1, h2⟩, h3⟩
/-- All names, sorted and compacted, are the names. -/
theorem names_compact (l : List Nd) : compact ((allNames l).mergeSort (fun x y => decide (x ≤ y))) = (propNames l).mergeSort (fun x y => decide (x ≤ y)) := by
  have hs : ((allNames l).mergeSort strLe).Pairwise (fun x y => strLe x y = true) := List.pairwise_mergeSort strLe_trans strLe_total _
  obtain ⟨c1, c2, c3⟩ := compact_sorted hs
  obtain ⟨n1, n2⟩ := names_spec l
  show compact ((allNames l).mergeSort strLe) = (propNames l).mergeSort strLe
  refine List.Perm.eq_of_pairwise (le := fun a b => strLe a b = true) (fun a b _ _ h1 h2 => strLe_anti h1 h2) c3 (List.pairwise_mergeSort strLe_trans strLe_total _) ?_
  refine (List.Perm.trans ?_ (List.mergeSort_perm (propNames l) strLe).symm)
  refine (List.perm_ext_iff_of_nodup c2 n2).2 fun x => ?_
  rw [c1, List.mem_mergeSort, mem_allNames, n1]
theorem all_next {l : List Nd} {k : Nat} {n : Nd} (h : l[k]? = some n) : allNames (l.take (k + 1)) = allNames (l.take k) ++ (if n.kind = 3 then [n.name.data.toList] else []) := by
  obtain ⟨hk, rfl⟩ := List.getElem?_eq_some_iff.1 h
  unfold allNames
  rw [List.take_succ_eq_append_getElem hk, List.filter_append, List.map_append]
  congr 1
  by_cases h3 : l[k].kind = 3
  · rw [if_pos h3]; simp [h3]
  · rw [if_neg h3]; simp [h3]
theorem all_len (l : List Nd) (k : Nat) : (allNames (l.take k)).length ≤ k := by
  unfold allNames
  rw [List.length_map]
  have h1 := List.length_filter_le (fun n : Nd => n.kind == 3) (l.take k)
  have h2 : (l.take k).length ≤ k := List.length_take_le _ _
  omega
end Go.Proofs.Ytmahbocelckmcaa.Tree
