/-
  The law HeadsFull (stage 13), over contracts of a landed pool. By an AI agent.
-/
import Derived.Test.YtimbbfneaaglbaaGHeadsApart29
namespace Go.Proofs.Ytimbbfneaaglbaa.Heads
open Go.RowKit Go.Proofs.Ytimbbfneaaglbaa.Ints Go.Proofs.Ytimbbfneaaglbaa.Mem Go.Proofs.Ytimbbfneaaglbaa.Trace Go.Proofs.Ytimbbfneaaglbaa.Record Go.Proofs.Ytimbbfneaaglbaa.Log Go.Proofs.Ytimbbfneaaglbaa.Src

/-! ### a pool without events: so many heads -/
def tP : Tr := ⟨[[112]], []⟩
def manyP (n i : Nat) : PS := ⟨tP, 13, (n : Int), List.replicate i (some 0), 3 * i⟩
theorem free_eq {hs : List (Option Nat)} {k : Nat} (h1 : hs[k]? = some none ∨ k = hs.length) (h2 : ∀ j, j < k → ∃ m, hs[j]? = some (some m)) : freeP hs = k := by
  rcases Nat.lt_trichotomy (freeP hs) k with h | h | h
  · obtain ⟨m, hm⟩ := h2 _ h
    have hlt := (List.getElem?_eq_some_iff.1 hm).1
    have := free_at hlt
    rw [hm] at this
    cases this
  · exact h
  · obtain ⟨m, hm⟩ := free_before h
    rcases h1 with e | e
    · rw [e] at hm; cases hm
    · have := (List.getElem?_eq_some_iff.1 hm).1
      omega
theorem many_count (i : Nat) : countP (List.replicate i (some 0)) = i := by
  unfold countP
  rw [List.countP_replicate]
  simp
theorem many_cells (i : Nat) : cellsP tP (List.replicate i (some 0)) = 3 * i := by
  unfold cellsP
  rw [List.map_replicate, List.sum_replicate_nat]
  show i * 3 = 3 * i
  omega
theorem many_at {i j : Nat} (h : j < i) : (List.replicate i (some 0))[j]? = some (some 0) := by
  rw [List.getElem?_replicate, if_pos h]
theorem many_free (i : Nat) : freeP (List.replicate i (some 0)) = i := free_eq (.inr (by rw [List.length_replicate])) (fun j hj => ⟨0, many_at hj⟩)
theorem many_put (i : Nat) : putP (List.replicate i (some 0)) i 0 = List.replicate (i + 1) (some 0) := by
  unfold putP
  rw [if_neg (by rw [List.length_replicate]; exact Nat.lt_irrefl _), List.replicate_succ']
theorem many_add {n i : Nat} (h : i < n) : addP (manyP n i) 0 = (i, 0, manyP n (i + 1)) := by
  unfold addP
  have e : ¬ ((countP (manyP n i).hs : Int) = (manyP n i).size) := by
    show ¬ ((countP (List.replicate i (some 0)) : Int) = (n : Int))
    rw [many_count]
    omega
  rw [if_neg e]
  have e2 : freeP (manyP n i).hs = i := many_free i
  rw [e2]
  have e3 : putP (manyP n i).hs i 0 = List.replicate (i + 1) (some 0) := many_put i
  rw [e3]
  unfold meterP
  show (i, 0, (⟨tP, 13, (n : Int), List.replicate (i + 1) (some 0), max (3 * i) (cellsP tP (List.replicate (i + 1) (some 0)))⟩ : PS)) = _
  rw [many_cells, show max (3 * i) (3 * (i + 1)) = 3 * (i + 1) by omega]
  rfl
theorem many_full (n : Nat) (k : Nat) : addP (manyP n n) k = (0, 12, manyP n n) := by
  unfold addP
  rw [if_pos (by show (countP (List.replicate n (some 0)) : Int) = (n : Int); rw [many_count])]
theorem many_head {n i k : Nat} (h : k < i) : headP (manyP n i).hs (k : Int) = some 0 := by
  unfold headP
  rw [if_neg (by omega), Int.toNat_natCast, List.getD_eq_getElem?_getD]
  show ((List.replicate i (some 0))[k]?).getD none = _
  rw [many_at h]
  rfl
theorem many_clone {n k : Nat} (h : k < n) : cloneP (manyP n n) (k : Int) = (0, 12, manyP n n) := by
  unfold cloneP
  rw [many_head h]
  exact many_full n 0
/-- One of them closed. -/
def lessP (n k : Nat) : PS := ⟨tP, 13, (n : Int), (List.replicate n (some 0)).set k none, 3 * n⟩
theorem many_close {n k : Nat} (h : k < n) : closeP (manyP n n) (k : Int) = (true, lessP n k) := by
  unfold closeP
  rw [many_head h]
  rfl
theorem less_at {n k : Nat} (h : k < n) (j : Nat) : (lessP n k).hs[j]? = if j = k then some none else (List.replicate n (some 0))[j]? := by
  show ((List.replicate n (some 0)).set k none)[j]? = _
  rw [List.getElem?_set]
  by_cases e : k = j
  · subst e
    rw [if_pos rfl, if_pos (by rw [List.length_replicate]; exact h), if_pos rfl]
  · rw [if_neg e, if_neg (fun e2 => e e2.symm)]
theorem less_head {n k : Nat} (h : k < n) : headP (lessP n k).hs (k : Int) = none := by
  unfold headP
  rw [if_neg (by omega), Int.toNat_natCast, List.getD_eq_getElem?_getD, less_at h, if_pos rfl]
  rfl
theorem less_close {n k : Nat} (h : k < n) : closeP (lessP n k) (k : Int) = (false, lessP n k) := by
  unfold closeP
  rw [less_head h]
theorem less_count {n k : Nat} (h : k < n) : countP (lessP n k).hs + 1 = n := by
  have h1 := count_set (many_at h) none
  rw [many_count] at h1
  simp at h1
  exact h1
theorem less_free {n k : Nat} (h : k < n) : freeP (lessP n k).hs = k := free_eq (.inl (by rw [less_at h, if_pos rfl])) (fun j hj => ⟨0, by rw [less_at h, if_neg (by omega)]; exact many_at (by omega)⟩)
theorem set_same {l : List (Option Nat)} {k : Nat} {a : Option Nat} (h : l[k]? = some a) : l.set k a = l := by
  obtain ⟨h1, h2⟩ := List.getElem?_eq_some_iff.1 h
  rw [← h2]
  exact List.set_getElem_self h1
theorem less_add {n k : Nat} (h : k < n) : addP (lessP n k) 0 = (k, 0, manyP n n) := by
  unfold addP
  have h1 := less_count h
  have e : ¬ ((countP (lessP n k).hs : Int) = (lessP n k).size) := by
    show ¬ ((countP (lessP n k).hs : Int) = (n : Int))
    omega
  rw [if_neg e, less_free h]
  have e3 : putP (lessP n k).hs k 0 = List.replicate n (some 0) := by
    unfold putP
    have hl : (lessP n k).hs.length = n := by
      show ((List.replicate n (some 0)).set k none).length = n
      rw [List.length_set, List.length_replicate]
    rw [if_pos (by omega)]
    show ((List.replicate n (some 0)).set k none).set k (some 0) = _
    rw [List.set_set]
    exact set_same (many_at h)
  rw [e3]
  unfold meterP
  show (k, 0, (⟨tP, 13, (n : Int), List.replicate n (some 0), max (3 * n) (cellsP tP (List.replicate n (some 0)))⟩ : PS)) = _
  rw [many_cells, Nat.max_self]
  rfl
/-- The last of them closed. -/
def lastP (n i : Nat) : PS := ⟨tP, 13, (n : Int), (List.replicate (i + 1) (some 0)).set i none, 3 * (i + 1)⟩
theorem last_close {n i : Nat} : closeP (manyP n (i + 1)) (i : Int) = (true, lastP n i) := by
  unfold closeP
  rw [many_head (Nat.lt_succ_self i)]
  rfl
theorem last_clone {n i : Nat} (h : i < n) (h0 : 0 < i) : cloneP (lastP n i) 0 = (i, 0, manyP n (i + 1)) := by
  have hh : headP (lastP n i).hs 0 = some 0 := by
    show headP ((List.replicate (i + 1) (some 0)).set i none) ((0 : Nat) : Int) = _
    unfold headP
    rw [if_neg (by omega), Int.toNat_natCast, List.getD_eq_getElem?_getD, List.getElem?_set_ne (by omega), many_at (by omega)]
    rfl
  have hadd := less_add (n := i + 1) (k := i) (Nat.lt_succ_self i)
  unfold cloneP
  rw [hh]
  show addP (lastP n i) 0 = _
  unfold addP
  have hc := less_count (n := i + 1) (k := i) (Nat.lt_succ_self i)
  have e : ¬ ((countP (lastP n i).hs : Int) = (lastP n i).size) := by
    show ¬ ((countP (lessP (i + 1) i).hs : Int) = (n : Int))
    omega
  rw [if_neg e, show freeP (lastP n i).hs = i from less_free (n := i + 1) (k := i) (Nat.lt_succ_self i)]
  have e3 : putP (lastP n i).hs i 0 = List.replicate (i + 1) (some 0) := by
    unfold addP at hadd
    rw [if_neg (by show ¬ ((countP (lessP (i + 1) i).hs : Int) = ((i + 1 : Nat) : Int)); omega), less_free (Nat.lt_succ_self i)] at hadd
    injection hadd with _ hadd
    injection hadd with _ hadd
    have h5 := congrArg PS.hs hadd
    exact h5
  rw [e3]
  unfold meterP
  show (i, 0, (⟨tP, 13, (n : Int), List.replicate (i + 1) (some 0), max (3 * (i + 1)) (cellsP tP (List.replicate (i + 1) (some 0)))⟩ : PS)) = _
  rw [many_cells, Nat.max_self]
  rfl
theorem many_ok {n i : Nat} (h : i ≤ n) : OkP (manyP n i) :=
  ⟨(fun j k hjk => by
    have hjk : (List.replicate i (some 0))[j]? = some (some k) := hjk
    rw [List.getElem?_replicate] at hjk
    split at hjk
    · injection hjk with e; injection e with e; subst e; exact Nat.zero_le _
    · cases hjk), (by show (countP (List.replicate i (some 0)) : Int) ≤ (n : Int); rw [many_count]; omega), (by show cellsP tP (List.replicate i (some 0)) ≤ 3 * i; rw [many_cells]; exact Nat.le_refl _), ⟨by show 13 ≠ 0; decide, by show 13 ≤ 20; decide⟩, (fun e he => by cases he)⟩
theorem last_ok {n i : Nat} (h : i < n) : OkP (lastP n i) := by
  have h1 := (many_ok (n := n) (i := i + 1) (by omega)).close (i : Int)
  rw [last_close] at h1
  exact h1
theorem less_ok {n k : Nat} (h : k < n) : OkP (lessP n k) := by
  have h1 := (many_ok (n := n) (i := n) (Nat.le_refl n)).close (k : Int)
  rw [many_close h] at h1
  exact h1

set_option maxHeartbeats 16000000 in
set_option maxRecDepth 100000 in
theorem lawHeadsFull {L : LPool} (C : PoolC L) (sz wh : Nat) (cl : Bool) (w : World) (hsz : sz ≤ 255) (hwh : wh ≤ 255) :
    Calls Try.prog 5 #[.int .u8 (sz : Nat), .int .u8 (wh : Nat), .bool cl] w fun e w' => e = .returned (.bool true) ∧ Below w.heap.size w w' := by
  have q63 : maxLen = 9223372036854775807 := rfl
  have HAW := Lib.hid (fun W => lawAwake C W)
  have hmay : mayT tP = true := by decide
  have htm : ∀ e ∈ tP.events, 0 ≤ e.time ∧ e.time ≤ 18446744073709551615 := fun e he => by cases he
  have hen := enc_recs hmay htm
  have hwf := u8_all (enc_bytes tP)
  have hlen : (encL tP).length ≤ 6000 := by rw [enc_eq hmay]; decide
  obtain ⟨n, hn1, hn2, hn3⟩ : ∃ n : Nat, (1 : Int) + (sz : Int) % 50 = (n : Int) ∧ 1 ≤ n ∧ n ≤ 50 := ⟨1 + sz % 50, by omega, by omega, by omega⟩
  obtain ⟨k, hk1, hk2⟩ : ∃ k : Nat, (wh : Int).tmod (n : Int) = (k : Int) ∧ k < n := ⟨wh % n, by rw [Int.tmod_eq_emod_of_nonneg (by omega), ← Int.natCast_emod], Nat.mod_lt _ (by omega)⟩
  have hal := (Below.refl _ w).alloc (Nat.le_refl _) (.cells #[.string { data := #[112] }] 9)
  have hst : Strs (w.alloc (.cells #[.string { data := #[112] }] 9)) (some ⟨w.heap.size, 0, none⟩) [[112]] := fun _ => ⟨w.heap.size, 0, rfl, fun j s hs => by
    rw [Nat.zero_add]
    match j, hs with
    | 0, hs => injection hs with hs; subst hs; exact box_cell 0 _ rfl⟩
  have htr : TrOk Any (w.alloc (.cells #[.string { data := #[112] }] 9)) (some ⟨w.heap.size, 0, none⟩) 1 1 none 0 0 tP := ⟨rfl, rfl, hst, (fun s hs => by rw [List.mem_singleton.1 hs]; decide), Evs.nil _ _ _, ⟨Nat.le_refl _, by decide⟩, ⟨Nat.le_refl _, by decide⟩⟩
  obtain ⟨w1, hw1⟩ : ∃ w1, w.alloc (.cells #[.string { data := #[112] }] 9) = w1 := ⟨_, rfl⟩
  rw [hw1] at hal htr
  have HB1 := Lib.hid hal
  have HE := Lib.hid (landEncode _ 1 1 none 0 0 tP w1 htr (by decide))
  have HNW := Lib.hid (fun A c W (hc9 : (encL tP).length ≤ c) (hc : c ≤ maxLen) (h : Rd .u8 W A (encL tP).length (encL tP)) => C.new A _ c (encL tP) none 0 0 [] (-1) (n : Int) W hc9 hc h (Rd.nil _ _ _) (by omega) (by decide) ⟨by decide, by decide⟩ ⟨by omega, by omega⟩)
  rw [show faultP (encL tP).length (-1) = (encL tP).length from rfl, show newE (encL tP) (encL tP).length (n : Int) = 0 by unfold newE; rw [if_neg (by omega)]; exact hen.2, show startP (encL tP) (encL tP).length (n : Int) = manyP n 0 by unfold startP; rw [hen.1]; rfl] at HNW
  obtain ⟨zs, hzs⟩ : ∃ zs, encL tP = zs := ⟨_, rfl⟩
  rw [hzs] at HE HNW hwf
  have HWF := Lib.hid hwf
  have hk50 : IntKind.i64.wrap (sz : Int) = (sz : Int) := IntWalk.i64_in _ (by omega)
  have hkwh : IntKind.i64.wrap (wh : Int) = (wh : Int) := IntWalk.i64_in _ (by omega)
  clear hal hst htr hen hzs hwf hlen htm hmay
  go_enter Try.func5, Try.ntmps5
  go_wp2_with fail
  refine HE.out.mono ?_
  intro e w2 hmade
  obtain ⟨A2, c2, rfl, hr2, hc2, hm2, -, -, hB2⟩ := made_slice hmade HWF.out
  have HB2 := Lib.hid (HB1.out.trans (hB2.mono HB1.out.size))
  have HNN := Lib.hid (HNW.out A2 c2 w2 hc2 hm2 hr2)
  clear hmade hr2 hB2 HNW HE
  go_wp2_with fail
  refine HNN.out.mono ?_
  rintro e w3 ⟨hB3, (⟨h0, -⟩ | ⟨-, gp, D, N, rfl, hL, hD, hN⟩)⟩
  · exact absurd rfl h0
  have HO3 := Lib.hid (OneP.made hB3 hL hD hN)
  have HB3 := Lib.hid hB3
  clear hL hD hN hB3 HNN
  go_wp2_with fail
  go_loopw [41] (fun iv wr => ∃ (i : Nat) (Bk : Nat), i ≤ n ∧ iv = .int .i64 (i : Nat) ∧ OneP L zs zs.length (fun _ => False) wr gp w2.heap.size Bk (manyP n i) ∧ Bk ≤ 8796093022208 * (i + 1) ∧ Below w2.heap.size w2 wr) (fun iv _ => n - (intOf iv).toNat)
  case atStart => exact ⟨0, 1099511627776, Nat.zero_le _, rfl, HO3.out, by omega, HB3.out⟩
  case round =>
    obtain ⟨i, Bk, hi, rfl, hop, hBk, hBr⟩ := hrel
    have HOr := Lib.hid hop
    have HBr := Lib.hid hBr
    clear hop hBr
    by_cases hin : i < n
    rotate_left
    · obtain rfl : i = n := by omega
      have hin' : ¬ ((i : Int) < (i : Int)) := by omega
      have hlm : (manyP i i).hs.length ≤ 100000 := by
        show (List.replicate i (some 0)).length ≤ _
        rw [List.length_replicate]
        omega
      have hll : (lessP i k).hs.length ≤ 100000 := by
        show ((List.replicate i (some 0)).set k none).length ≤ _
        rw [List.length_set, List.length_replicate]
        omega
      have hn0 : ¬ ((i : Int) = 0) := by omega
      have hcnt := less_count hk2
      have hcn : (countP (lessP i k).hs : Int) = (i : Int) - 1 := by omega
      have hc := HOr.out.land C (fun D N hL hN => C.open_ zs _ wr gp D N (manyP i i) hL (many_ok (Nat.le_refl i)) hlm (by omega))
      rw [many_full] at hc
      have HC := Lib.hid hc
      clear hc
      go_wp2_with fail
      refine HC.out.mono ?_
      rintro e w4 ⟨rfl, hs⟩
      have HO4 := Lib.hid hs.1
      have HB4 := Lib.hid (HBr.out.trans hs.2.2)
      clear hs HC
      have hc := HO4.out.land C (fun D N hL hN => C.clone zs _ w4 gp D N (manyP i i) (k : Int) hL (many_ok (Nat.le_refl i)) hlm (by omega) ⟨by omega, by omega⟩)
      rw [many_clone hk2] at hc
      have HC := Lib.hid hc
      clear hc
      go_wp2_with fail
      refine HC.out.mono ?_
      rintro e w5 ⟨rfl, hs⟩
      have HO5 := Lib.hid hs.1
      have HB5 := Lib.hid (HB4.out.trans hs.2.2)
      clear hs HC
      have hc := HO5.out.land C (fun D N hL hN => C.close zs _ w5 gp D N (manyP i i) (k : Int) hL (many_ok (Nat.le_refl i)) hlm (by omega) ⟨by omega, by omega⟩)
      rw [many_close hk2] at hc
      have HC := Lib.hid hc
      clear hc
      go_wp2_with fail
      refine HC.out.mono ?_
      rintro e w6 ⟨rfl, hs⟩
      have HO6 := Lib.hid hs.1
      have HB6 := Lib.hid (HB5.out.trans hs.2.2)
      clear hs HC
      have hc := HO6.out.land C (fun D N hL hN => C.close zs _ w6 gp D N (lessP i k) (k : Int) hL (less_ok hk2) hll (by omega) ⟨by omega, by omega⟩)
      rw [less_close hk2] at hc
      have HC := Lib.hid hc
      clear hc
      go_wp2_with fail
      refine HC.out.mono ?_
      rintro e w7 ⟨rfl, hs⟩
      have HO7 := Lib.hid hs.1
      have HB7 := Lib.hid (HB6.out.trans hs.2.2)
      clear hs HC
      have hc := HO7.out.land C (fun D N hL hN => C.count zs _ w7 gp D N (lessP i k) hL (less_ok hk2) hll (by omega))
      rw [hcn] at hc
      have HC := Lib.hid hc
      clear hc
      go_wp2_with fail
      refine HC.out.mono ?_
      rintro e w8 ⟨rfl, hs⟩
      have HO8 := Lib.hid hs.1
      have HB8 := Lib.hid (HB7.out.trans hs.2.2)
      clear hs HC
      have hc := HO8.out.land C (fun D N hL hN => C.index zs _ w8 gp D N (lessP i k) (k : Int) hL (less_ok hk2) hll (by omega) ⟨by omega, by omega⟩)
      rw [less_head hk2] at hc
      have HC := Lib.hid hc
      clear hc
      go_wp2_with fail
      refine HC.out.mono ?_
      rintro e w9 ⟨rfl, hs⟩
      have HO9 := Lib.hid hs.1
      have HB9 := Lib.hid (HB8.out.trans hs.2.2)
      clear hs HC
      have hc := HO9.out.land C (fun D N hL hN => C.open_ zs _ w9 gp D N (lessP i k) hL (less_ok hk2) hll (by omega))
      rw [less_add hk2] at hc
      have HC := Lib.hid hc
      clear hc
      go_wp2_with fail
      refine HC.out.mono ?_
      rintro e w10 ⟨rfl, hs⟩
      have HO10 := Lib.hid hs.1
      have HB10 := Lib.hid (HB9.out.trans hs.2.2)
      clear hs HC
      have hc := HO10.out.land C (fun D N hL hN => C.peak zs _ w10 gp D N (manyP i i) hL (many_ok (Nat.le_refl i)) hlm (by omega))
      rw [show (manyP i i).peak = 3 * i from rfl] at hc
      have HC := Lib.hid hc
      clear hc
      go_wp2_with fail
      refine HC.out.mono ?_
      rintro e w11 ⟨rfl, hs⟩
      have HO11 := Lib.hid hs.1
      have HB11 := Lib.hid (HB10.out.trans hs.2.2)
      clear hs HC
      go_wp2_with fail
      refine (HAW.out w11).mono ?_
      rintro e w12 ⟨rfl, hB12⟩
      have HB12 := Lib.hid (HB2.out.trans ((HB11.out.trans (hB12.mono HO11.out.base)).mono HB2.out.size))
      clear hB12
      go_wp2_with fail
      go_ret
      exact ⟨rfl, HB12.out⟩
    have hin' : (i : Int) < (n : Int) := by omega
    have hlen : ∀ j, j ≤ n → (manyP n j).hs.length ≤ 100000 := fun j hj => by
      show (List.replicate j (some 0)).length ≤ _
      rw [List.length_replicate]
      omega
    have HLN := Lib.hid hlen
    have hll : (lastP n i).hs.length ≤ 100000 := by
      show ((List.replicate (i + 1) (some 0)).set i none).length ≤ _
      rw [List.length_set, List.length_replicate]
      omega
    clear hlen
    have hc := HOr.out.land C (fun D N hL hN => C.open_ zs _ wr gp D N (manyP n i) hL (many_ok hi) (HLN.out i hi) (by omega))
    rw [many_add hin] at hc
    have HC := Lib.hid hc
    clear hc
    go_wp2_with fail
    refine HC.out.mono ?_
    rintro e w4 ⟨rfl, hs⟩
    have HO4 := Lib.hid hs.1
    have HB4 := Lib.hid (HBr.out.trans hs.2.2)
    clear hs HC
    by_cases hi0 : 0 < i
    rotate_left
    · have hi0' : ¬ ((i : Int) > 0) := by omega
      cases cl
      all_goals
        have hc := HO4.out.land C (fun D N hL hN => C.count zs _ w4 gp D N (manyP n (i + 1)) hL (many_ok hin) (HLN.out (i + 1) hin) (by omega))
        rw [show countP (manyP n (i + 1)).hs = i + 1 from many_count (i + 1)] at hc
        have HC := Lib.hid hc
        clear hc
        go_wp2_with fail
        refine HC.out.mono ?_
        rintro e w8 ⟨rfl, hs⟩
        have HO8 := Lib.hid hs.1
        have HB8 := Lib.hid (HB4.out.trans hs.2.2)
        clear hs HC
        have hc := HO8.out.land C (fun D N hL hN => C.cells zs _ w8 gp D N (manyP n (i + 1)) hL (many_ok hin) (HLN.out (i + 1) hin) (by omega))
        rw [show cellsP (manyP n (i + 1)).t (manyP n (i + 1)).hs = 3 * (i + 1) from many_cells (i + 1)] at hc
        have HC := Lib.hid hc
        clear hc
        go_wp2_with fail
        refine HC.out.mono ?_
        rintro e w9 ⟨rfl, hs⟩
        have HO9 := Lib.hid hs.1
        have HB9 := Lib.hid (HB8.out.trans hs.2.2)
        clear hs HC
        go_wp2_with fail
        go_roundw
        case rel => exact ⟨i + 1, _, by omega, by go_num, HO9.out, by omega, HB9.out⟩
        case measure => simp [intOf]; omega
    have hi0' : (i : Int) > 0 := by omega
    cases cl with
    | false =>
      have hc := HO4.out.land C (fun D N hL hN => C.count zs _ w4 gp D N (manyP n (i + 1)) hL (many_ok hin) (HLN.out (i + 1) hin) (by omega))
      rw [show countP (manyP n (i + 1)).hs = i + 1 from many_count (i + 1)] at hc
      have HC := Lib.hid hc
      clear hc
      go_wp2_with fail
      refine HC.out.mono ?_
      rintro e w8 ⟨rfl, hs⟩
      have HO8 := Lib.hid hs.1
      have HB8 := Lib.hid (HB4.out.trans hs.2.2)
      clear hs HC
      have hc := HO8.out.land C (fun D N hL hN => C.cells zs _ w8 gp D N (manyP n (i + 1)) hL (many_ok hin) (HLN.out (i + 1) hin) (by omega))
      rw [show cellsP (manyP n (i + 1)).t (manyP n (i + 1)).hs = 3 * (i + 1) from many_cells (i + 1)] at hc
      have HC := Lib.hid hc
      clear hc
      go_wp2_with fail
      refine HC.out.mono ?_
      rintro e w9 ⟨rfl, hs⟩
      have HO9 := Lib.hid hs.1
      have HB9 := Lib.hid (HB8.out.trans hs.2.2)
      clear hs HC
      go_wp2_with fail
      go_roundw
      case rel => exact ⟨i + 1, _, by omega, by go_num, HO9.out, by omega, HB9.out⟩
      case measure => simp [intOf]; omega
    | true =>
      have hc := HO4.out.land C (fun D N hL hN => C.close zs _ w4 gp D N (manyP n (i + 1)) (i : Int) hL (many_ok hin) (HLN.out (i + 1) hin) (by omega) ⟨by omega, by omega⟩)
      rw [last_close] at hc
      have HC := Lib.hid hc
      clear hc
      go_wp2_with fail
      refine HC.out.mono ?_
      rintro e w5 ⟨rfl, hs⟩
      have HO5 := Lib.hid hs.1
      have HB5 := Lib.hid (HB4.out.trans hs.2.2)
      clear hs HC
      have hc := HO5.out.land C (fun D N hL hN => C.clone zs _ w5 gp D N (lastP n i) 0 hL (last_ok hin) hll (by omega) ⟨by decide, by decide⟩)
      rw [last_clone hin hi0] at hc
      have HC := Lib.hid hc
      clear hc
      go_wp2_with fail
      refine HC.out.mono ?_
      rintro e w6 ⟨rfl, hs⟩
      have HO6 := Lib.hid hs.1
      have HB6 := Lib.hid (HB5.out.trans hs.2.2)
      clear hs HC
      have hc := HO6.out.land C (fun D N hL hN => C.count zs _ w6 gp D N (manyP n (i + 1)) hL (many_ok hin) (HLN.out (i + 1) hin) (by omega))
      rw [show countP (manyP n (i + 1)).hs = i + 1 from many_count (i + 1)] at hc
      have HC := Lib.hid hc
      clear hc
      go_wp2_with fail
      refine HC.out.mono ?_
      rintro e w8 ⟨rfl, hs⟩
      have HO8 := Lib.hid hs.1
      have HB8 := Lib.hid (HB6.out.trans hs.2.2)
      clear hs HC
      have hc := HO8.out.land C (fun D N hL hN => C.cells zs _ w8 gp D N (manyP n (i + 1)) hL (many_ok hin) (HLN.out (i + 1) hin) (by omega))
      rw [show cellsP (manyP n (i + 1)).t (manyP n (i + 1)).hs = 3 * (i + 1) from many_cells (i + 1)] at hc
      have HC := Lib.hid hc
      clear hc
      go_wp2_with fail
      refine HC.out.mono ?_
      rintro e w9 ⟨rfl, hs⟩
      have HO9 := Lib.hid hs.1
      have HB9 := Lib.hid (HB8.out.trans hs.2.2)
      clear hs HC
      go_wp2_with fail
      go_roundw
      case rel => exact ⟨i + 1, _, by omega, by go_num, HO9.out, by omega, HB9.out⟩
      case measure => simp [intOf]; omega
end Go.Proofs.Ytimbbfneaaglbaa.Heads
