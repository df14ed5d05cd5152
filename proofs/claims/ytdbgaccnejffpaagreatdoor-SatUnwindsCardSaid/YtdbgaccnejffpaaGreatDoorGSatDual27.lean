/-
  The walks of package bits and of its reference: within, the same, how many, how many words are wanted; two lists of words, two lists of numbers. By an AI agent.
  The walks of package bits: what makes a set: Or. By an AI agent.
  The walks of the reference: what makes a set: Trim, Or, And, Less. By an AI agent.
  The walks of Of, the program's and the reference's. By an AI agent.
  The landed add at every node; hold: the set of the tests that hold at a point (stage 15). By an AI agent.
  The landed row, step (stage 14). By an AI agent.
-/
import Derived.Test.YtdbgaccnejffpaaGreatDoorGSatDual5
import Derived.OwnWalk
import Derived.Lib.MinMax
import Derived.RegionTactic
import Derived.BigRegion
import Derived.Laws.CopyOwn
import Derived.Test.YtdbgaccnejffpaaGreatDoorGSatDual1
import Derived.Test.YtdbgaccnejffpaaGreatDoorGSatDual26
import Derived.Test.YtdbgaccnejffpaaGreatDoorGSatDual25
import Derived.Deep.RegionHeld3
namespace Go.Proofs.YtdbgaccnejffpaaGreatDoor.BitsWalks
open Go.RowKit Go.Proofs.YtdbgaccnejffpaaGreatDoor.Ints Go.Proofs.YtdbgaccnejffpaaGreatDoor.Words Go.Proofs.YtdbgaccnejffpaaGreatDoor.RdW
def within (xs ys : List Nat) : Bool := decide (∀ j, j < xs.length → anot (wd xs j) (wd ys j) = 0)
def wants (zs : List Int) : Nat := zs.foldl (fun c z => if 0 ≤ z ∧ z ≤ 4095 then max c (z.toNat / 64 + 1) else c) 0
section
variable (A B : Option Addr) (n c m d : Nat) (xs ys : List Nat) (zs us : List Int) (w : World)
def same (xs ys : List Nat) : Bool := within xs ys && within ys xs
end
end Go.Proofs.YtdbgaccnejffpaaGreatDoor.BitsWalks

namespace Go.Proofs.YtdbgaccnejffpaaGreatDoor.BitsWalks
open Go.RowKit Go.Proofs.YtdbgaccnejffpaaGreatDoor.Ints Go.Proofs.YtdbgaccnejffpaaGreatDoor.Words Go.Proofs.YtdbgaccnejffpaaGreatDoor.RdW
theorem infoW : (Tryz.prog.info? 22).map (fun i => (i.zero, i.size, i.bytes)) = some (some (.int .u64 0), 1, 8) := by kernel_rfl
abbrev Row (w : World) (base g K c : Nat) (xs : List Nat) : Prop := w.ownsRow base 22 1 (.slice (some ⟨g, 0, none⟩) K c) K ((ints xs).map (Value.int .u64))
theorem made_words (n : Nat) : (madeCells (Value.int .u64 0).cells (n * 1)).toList = (ints (List.replicate n 0)).map (Value.int .u64) := by
 rw [Nat.mul_one]
 apply List.ext_getElem
 ·simp [madeCells, ints]
 ·intro i h1 h2
  have e : (Value.int .u64 0).cells = #[Value.int .u64 0] := rfl
  simp [madeCells, ints, e, Nat.mod_one]
section
variable {w : World}
theorem Row.reads {base g K c : Nat} {xs : List Nat} (h : Row w base g K c xs) (hw : Ws xs) : RdW w (some ⟨g, 0, none⟩) K xs := RdW.own h hw
theorem Row.set {base g K c : Nat} {xs : List Nat} (h : Row w base g K c xs) (j x : Nat) : Row (w.setCell ⟨g, j, none⟩ (.int .u64 x)) base g K c (xs.set j x) := by
 have := own_set h j (x : Int)
 rwa [ints_set] at this
theorem Row.cell {base g K c : Nat} {xs : List Nat} (h : Row w base g K c xs) {j : Nat} (hj : j < K) : w.cell? ⟨g, j, none⟩ = some (.int .u64 (wd xs j : Nat)) := by
 rw [own_cell h hj, ints_at]; rfl
end
section
variable (A B : Option Addr) (n c m d : Nat) (xs ys : List Nat) (w : World)
end
end Go.Proofs.YtdbgaccnejffpaaGreatDoor.BitsWalks

namespace Go.Proofs.YtdbgaccnejffpaaGreatDoor.BitsWalks
open Go.RowKit Go.Proofs.YtdbgaccnejffpaaGreatDoor.Ints Go.Proofs.YtdbgaccnejffpaaGreatDoor.Words Go.Proofs.YtdbgaccnejffpaaGreatDoor.RdW
section
variable (A B : Option Addr) (n c m d : Nat) (xs ys : List Nat) (w : World)
end
end Go.Proofs.YtdbgaccnejffpaaGreatDoor.BitsWalks

namespace Go.Proofs.YtdbgaccnejffpaaGreatDoor.BitsWalks
open Go.RowKit Go.Proofs.YtdbgaccnejffpaaGreatDoor.Ints Go.Proofs.YtdbgaccnejffpaaGreatDoor.Words Go.Proofs.YtdbgaccnejffpaaGreatDoor.RdW
def may (z : Int) : Prop := 0 ≤ z ∧ z ≤ 4095
instance (z : Int) : Decidable (may z) := by unfold may; exact inferInstance
def put (L : List Nat) (z : Int) : List Nat := if may z then L.set (z.toNat / 64) (wd L (z.toNat / 64) ||| 2 ^ (z.toNat % 64)) else L
theorem put_len (L : List Nat) (z : Int) : (put L z).length = L.length := by
 unfold put
 split <;> simp
theorem pow_bit (b i : Nat) : (2 ^ b).testBit i = decide (b = i) := Nat.testBit_two_pow
theorem pow_lt {b : Nat} (h : b < 64) : 2 ^ b < 18446744073709551616 := Nat.pow_lt_pow_right (a := 2) (m := b) (n := 64) (by omega) h
theorem put_ws {L : List Nat} {z : Int} (h : Ws L) : Ws (put L z) := by
 unfold put
 split
 ·intro j
  rw [List.getElem?_set]
  split
  ·split
   ·exact or_lt (h _) (pow_lt (by omega))
   ·simp
  ·exact h j
 ·exact h
theorem put_has {L : List Nat} {z : Int} (hz : may z → z.toNat / 64 < L.length) (i : Nat) : has (put L z) i = (has L i || decide (may z ∧ (i : Int) = z)) := by
 unfold put
 by_cases hm : may z
 ·have hlt := hz hm
  obtain ⟨hm0, hm1⟩ := hm
  rw [if_pos ⟨hm0, hm1⟩]
  unfold has
  rw [List.getElem?_set]
  by_cases hq : z.toNat / 64 = i / 64
  ·rw [if_pos hq, if_pos hlt, Option.getD_some, Nat.testBit_or, pow_bit]
   unfold wd
   rw [hq]
   congr 1
   congr 1
   apply propext
   constructor
   ·intro h; exact ⟨⟨hm0, hm1⟩, by omega⟩
   ·rintro ⟨_, h⟩; omega
  ·rw [if_neg hq]
   have : decide (may z ∧ (i : Int) = z) = false := by
    rw [decide_eq_false_iff_not]
    rintro ⟨_, h⟩
    exact hq (by omega)
   rw [this, Bool.or_false]
 ·rw [if_neg hm]
  have : decide (may z ∧ (i : Int) = z) = false := by
   rw [decide_eq_false_iff_not]
   rintro ⟨h, _⟩
   exact hm h
  rw [this, Bool.or_false]
theorem has_zeros (K i : Nat) : has (List.replicate K 0) i = false := by
 unfold has
 rw [List.getElem?_replicate]
 split <;> simp
theorem or_bit (x b : Nat) (hx : x < 18446744073709551616) (hb : b < 64) : bits .or .u64 (x : Int) (IntKind.u64.wrap ((2 : Int) ^ b)) = ((x ||| 2 ^ b : Nat) : Int) := by
 have h1 := pow_lt hb
 have h0 := Nat.two_pow_pos b
 have e1 : (2 : Int) ^ b = ((2 ^ b : Nat) : Int) := by rw [Int.natCast_pow]; rfl
 have e2 : IntKind.u64.wrap ((2 : Int) ^ b) = ((2 ^ b : Nat) : Int) := by
  rw [e1, IntKind.wrap_u64]
  omega
 rw [e2, bits_or_u64_nat x (2 ^ b) hx h1]
section
variable (A : Option Addr) (n c : Nat) (zs : List Int) (w : World)
end
end Go.Proofs.YtdbgaccnejffpaaGreatDoor.BitsWalks

namespace Go.Proofs.YtdbgaccnejffpaaGreatDoor.Sat
open Go.RowKit Go.Proofs.YtdbgaccnejffpaaGreatDoor.Ints Go.Proofs.YtdbgaccnejffpaaGreatDoor.Mem Go.Proofs.YtdbgaccnejffpaaGreatDoor.Src Go.Proofs.YtdbgaccnejffpaaGreatDoor.Paths Go.Proofs.YtdbgaccnejffpaaGreatDoor.Late Go.Proofs.YtdbgaccnejffpaaGreatDoor.Trace Go.Proofs.YtdbgaccnejffpaaGreatDoor.RdW Go.Proofs.YtdbgaccnejffpaaGreatDoor.Words Go.Proofs.YtdbgaccnejffpaaGreatDoor.BitsWalks
theorem landAddN (J : Jd) (w0 : World) (lo gw : Nat) (bv : Nat → Nat) (hml : Tree.mayL J.l = true) (hgj : J.gj < lo) (hbt : J.bt < lo) : ∀ i, i < J.l.length → Tree.regKind (kindN J.l i) = true → AddC J w0 lo gw bv i (reI J.l i) := by
 intro i
 induction i using Nat.strongRecOn with
 | ind i ih =>
  intro hi hr
  have hnd := tests_nodup hml hi hr
  rcases kidc_reg hr with ⟨e, hk⟩ | ⟨e, hk⟩ | ⟨e, hk⟩ | ⟨e, hk⟩
  ·rw [reI_step e] at hnd ⊢
   exact add_kids J w0 lo gw bv i _ hi (fun y h => by cases h) e (by rw [hk]; rfl) (fun q a h => by cases h) hnd hgj hbt
  ·rw [reI_test e]
   exact add_test J w0 lo gw bv i hi e hgj hbt
  ·obtain ⟨a1, a2⟩ := kidN_two hml hi hk
   obtain ⟨r1, r2⟩ := kid_reg2 hml hi e
   have x1 := ih _ a1 (by omega) r1
   have x2 := ih _ a2 (by omega) r2
   have hq : ∀ q a, [reI J.l (kidN J.l i 0), reI J.l (kidN J.l i 1)][q]? = some a → AddC J w0 lo gw bv (kidN J.l i q) a := fun q a h => by
    match q, h with
    | 0, h => injection h with h; rw [← h]; exact x1
    | 1, h => injection h with h; rw [← h]; exact x2
   rcases e with e | e
   ·rw [reI_alt hml hi e] at hnd ⊢
    exact add_kids J w0 lo gw bv i _ hi (fun y h => by cases h) e (by rw [hk]; rfl) hq hnd hgj hbt
   ·rw [reI_seq hml hi e] at hnd ⊢
    exact add_kids J w0 lo gw bv i _ hi (fun y h => by cases h) e (by rw [hk]; rfl) hq hnd hgj hbt
  ·have a1 := kidN_one hml hi hk
   rw [reI_many hml hi e] at hnd ⊢
   exact add_kids J w0 lo gw bv i _ hi (fun y h => by cases h) e (by rw [hk]; rfl) (fun q a h => by
    match q, h with
    | 0, h => injection h with h; rw [← h]; exact ih _ a1 (by omega) (kid_reg1 hml hi (.inl e))) hnd hgj hbt
def hldL (f : Nat → Bool) (K : Nat) : Nat → List Nat
 | 0 => List.replicate K 0
 | k + 1 => if f k = true then put (hldL f K k) ((k : Nat) : Int) else hldL f K k
theorem hld_len (f : Nat → Bool) (K k : Nat) : (hldL f K k).length = K := by
 induction k with
 | zero => simp [hldL]
 | succ k ih => unfold hldL; split; exact (put_len _ _).trans ih; exact ih
theorem hld_ws (f : Nat → Bool) (K k : Nat) : Ws (hldL f K k) := by
 induction k with
 | zero => intro j; show (List.replicate K 0)[j]?.getD 0 < _; rw [List.getElem?_replicate]; split <;> simp
 | succ k ih => unfold hldL; split; exact put_ws ih; exact ih
theorem hld_has (f : Nat → Bool) {K : Nat} : ∀ k, k ≤ 64 * K → k ≤ 4096 → ∀ x, has (hldL f K k) x = (decide (x < k) && f x) := by
 intro k
 induction k with
 | zero => intro _ _ x; unfold hldL; rw [has_zeros, decide_eq_false (by omega)]; rfl
 | succ k ih =>
  intro h1 h2 x
  have ih := ih (by omega) (by omega) x
  unfold hldL
  by_cases hf : f k = true
  ·rw [if_pos hf, put_has (fun hm => by rw [hld_len]; show (((k : Nat) : Int)).toNat / 64 < K; rw [Int.toNat_natCast]; omega), ih]
   by_cases e : x = k
   ·subst e
    rw [decide_eq_false (Nat.lt_irrefl _), decide_eq_true (by unfold may; omega), decide_eq_true (Nat.lt_succ_self _), hf]; rfl
   ·rw [decide_eq_false (show ¬ (may ((k : Nat) : Int) ∧ ((x : Nat) : Int) = ((k : Nat) : Int)) from fun h => e (by omega)), Bool.or_false]
    by_cases h3 : x < k
    ·rw [decide_eq_true h3, decide_eq_true (by omega)]
    ·rw [decide_eq_false h3, decide_eq_false (by omega)]
  ·rw [if_neg hf, ih]
   by_cases e : x = k
   ·subst e
    rw [decide_eq_false (Nat.lt_irrefl _)]
    have : f x = false := by simpa using hf
    rw [this]; simp
   ·by_cases h3 : x < k
    ·rw [decide_eq_true h3, decide_eq_true (by omega)]
    ·rw [decide_eq_false h3, decide_eq_false (by omega)]
set_option maxHeartbeats 8000000 in
set_option maxRecDepth 100000 in
theorem landHold (lo gw n i : Nat) (lv tv vv : Value) (σ : List SN) (bs : List Nat) (f : Nat → Nat → Bool) (w : World) (h : WM w lo gw lv tv vv σ (bs.map fun b => tV n b)) (hr : ∀ k b, bs[k]? = some b → RB w b n (f k)) (hi : i < n) (_hn : n ≤ 1000) (hb : bs.length ≤ 1000) (K : Nat) (hK : (bs.length + 63) / 64 = K) :
  Calls Tryz.prog 83 #[.pointer (some ⟨gw, 0, none⟩), .int .i64 ((i : Nat) : Int)] w fun e w' => ∃ r zs, e = .returned (.slice (some ⟨r, 0, none⟩) K K) ∧ Row w' w.heap.size r K K zs ∧ Ws zs ∧ (∀ x, has zs x = (decide (x < bs.length) && f x i)) ∧ Below w.heap.size w w' := by
 have q63 : maxLen = 9223372036854775807 := rfl
 obtain ⟨i0, hi0, hz0, hz1, hz2⟩ := info_parts infoW
 obtain ⟨T, hT⟩ : ∃ T, bs.length = T := ⟨_, rfl⟩
 rw [hT] at hK
 have hts : ∃ A c, tv = .slice A T c ∧ (0 < T → ∃ q, A = some ⟨q, 0, none⟩) ∧ T ≤ c := by
  rcases h.tests.2 with ⟨e, e0⟩ | ⟨q, c, cur, e, -, -, hc, -⟩
  ·rw [List.length_map, hT] at e0
   exact ⟨none, 0, by rw [e, e0], fun h0 => by omega, by omega⟩
  ·rw [List.length_map, hT] at e hc
   exact ⟨_, c, e, fun _ => ⟨q, rfl⟩, hc⟩
 obtain ⟨A, c, rfl, hA, hTc⟩ := hts
 have b1 : i0.bytes * K ≤ 281474976710656 := by rw [hz2]; omega
 have b2 : K ≤ maxLen := by omega
 have hTi : ((T : Nat) : Int) ≤ 1000 := by omega
 have hw1 : IntKind.i64.wrap (((T : Nat) : Int) + 64) = ((T + 64 : Nat) : Int) := by rw [show ((T : Nat) : Int) + 64 = ((T + 64 : Nat) : Int) by omega]; exact wrap_small _ (by omega)
 have hdq : (((T : Nat) : Int) + 64 - 1) / 64 = ((K : Nat) : Int) := by omega
 have HDQ := Lib.hid hdq
 have HW := Lib.hid h
 have HR := Lib.hid hr
 have HT := Lib.hid (And.intro hT hK)
 have c1 := h.blk.cell 1 rfl
 clear h hr hT hK hb
 go_enter Tryz.func83, Tryz.ntmps83
 go_wp2_with (at_make; refine wpList_make_full _ rfl (.tmp 15) (.tmp 15) 107 rfl w.heap.size 22 i0 (.int .u64 0) 1 Tryz.underlying107 hi0 hz0 hz1 .i64 .i64 _ _ K (congrArg (Value.int .i64) HDQ.out) (congrArg (Value.int .i64) HDQ.out) rfl rfl b1 b2 (Nat.le_refl _) ?_; intro w1 hmade hgr1; rw [made_words] at hmade; have c1w := hgr1.cell c1 (by simp))
 have HM := Lib.hid (show Row w1 w.heap.size w.heap.size K K (hldL (fun k => f k i) K 0) from hmade)
 have HG := Lib.hid (show Below w.heap.size w w1 from ⟨hgr1.os, hgr1.tape, hgr1.output, hgr1.size, fun k hk => hgr1.block k hk (by simp)⟩)
 clear hmade hgr1 c1w c1 hdq hw1
 go_loopw [6, 7, 22] (fun _ _ v wr => ∃ k : Nat, v = .int .i64 (k : Nat) ∧ k ≤ T ∧ Row wr w.heap.size w.heap.size K K (hldL (fun k => f k i) K k) ∧ Below w.heap.size w wr) (fun _ _ v _ => T - (intOf v).toNat)
 case atStart => exact ⟨0, rfl, Nat.zero_le _, HM.out, HG.out⟩
 case round =>
  obtain ⟨k, rfl, hkT, hrow, hB⟩ := hrel
  have HO := Lib.hid hrow
  have HB := Lib.hid hB
  by_cases hlt : k < T
  ·obtain ⟨b, hbk⟩ : ∃ b, bs[k]? = some b := ⟨_, List.getElem?_eq_getElem (by rw [HT.out.1]; exact hlt)⟩
   obtain ⟨q, rfl⟩ := hA (by omega)
   have y1 := World.ownsRow.cells (below_row HW.out.tests hB) (g := q) rfl k (tV n b) (by rw [List.getElem?_map, hbk]; rfl)
   rw [Addr.add_lit, Nat.zero_add] at y1
   unfold tV at y1
   have x1 := ((HR.out k b hbk).below hB) i hi
   have hki : ((k : Nat) : Int) < ((T : Nat) : Int) := by omega
   have hii : ((i : Nat) : Int) < ((n : Nat) : Int) := by omega
   clear hB hrow hbk
   cases hf : f k i
   ·rw [hf] at x1
    have HF := Lib.hid (show hldL (fun k => f k i) K (k + 1) = hldL (fun k => f k i) K k from by
     show (if f k i = true then _ else _) = _
     rw [if_neg (by rw [hf]; decide)])
    clear hf
    go_wp2_with fail
    go_roundw
    case rel => exact ⟨k + 1, by simp, by omega, by rw [HF.out]; exact HO.out, HB.out⟩
    case measure => (show T - (k + 1) < T - k; omega)
   ·rw [hf] at x1
    obtain ⟨L, hL⟩ : ∃ L, hldL (fun k => f k i) K k = L := ⟨_, rfl⟩
    obtain ⟨p, hpe⟩ : ∃ p, k / 64 = p := ⟨_, rfl⟩
    obtain ⟨t, hte⟩ : ∃ t, k % 64 = t := ⟨_, rfl⟩
    have HF := Lib.hid (show hldL (fun k => f k i) K (k + 1) = L.set p (wd L p ||| 2 ^ t) from by
     show (if f k i = true then put (hldL (fun k => f k i) K k) ((k : Nat) : Int) else _) = _
     rw [if_pos hf, hL]
     unfold put
     rw [if_pos (by unfold may; omega), Int.toNat_natCast, hpe, hte])
    have hpK : p < K := by have := HT.out.2; omega
    have hws : Ws L := by rw [← hL]; exact hld_ws _ _ _
    have hrow := HO.out
    rw [hL] at hrow
    have HO2 := Lib.hid hrow
    have hc2 := hrow.cell hpK
    have hc3 := hrow.frozenAt p
    have e5 := or_bit (wd L p) t (hws p) (by omega)
    have hq2 : IntKind.i64.wrap (((k : Nat) : Int) / 64) = ((p : Nat) : Int) := by
     rw [show ((k : Nat) : Int) / 64 = ((p : Nat) : Int) by omega]; exact wrap_small _ (by omega)
    have hr1 : ((k : Nat) : Int).tmod 64 = ((t : Nat) : Int) := by rw [Int.tmod_eq_emod_of_nonneg (by omega)]; omega
    have hr2 : ((k : Nat) : Int) % 64 = ((t : Nat) : Int) := by omega
    have hpKi : ((p : Nat) : Int) < ((K : Nat) : Int) := by omega
    have hp0 : (0 : Int) ≤ ((p : Nat) : Int) := by omega
    have ht64 : ((t : Nat) : Int) < 64 := by omega
    have ht0 : (0 : Int) ≤ ((t : Nat) : Int) := by omega
    have HLT := Lib.hid hlt
    clear hf hL hrow hws hpe hte hpK hlt
    go_wp2_with fail
    refine Late.drew [10] (S := fun V => V.cell? ⟨w.heap.size, p, none⟩ = some (.int .u64 ((wd L p : Nat) : Int))) (by kernel_rfl) hc2 (fun hHeld => ?_)
    refine ltOp 0 hHeld ?_
    refine ltOp 1 hHeld ?_
    refine ltOp 2 hHeld ?_
    refine ltOp 3 hHeld ?_
    refine ltOp 4 hHeld ?_
    refine ltOp 5 hHeld ?_
    refine ltOp 6 hHeld ?_
    refine ltOp 7 hHeld ?_
    refine ltOp 8 hHeld ?_
    refine ltOp 9 hHeld ?_
    refine ltLast 10 (fun Kt hKt => ?_)
    go_simp
    refine hKt.out _ _ trivial (fun hT => ?_)
    clear hKt Kt hHeld
    have hHeld := hT
    clear hT
    try simp only [Act.put, tkA, tkB, tkC]
    refine wpAnyH_done (by kernel_rfl) ?_ _
    clear hHeld
    go_wp2_with fail
    go_roundw
    case rel => exact ⟨k + 1, by simp, HLT.out, by rw [HF.out]; exact HO2.out.set p _, (HB.out.setCell (p := ⟨w.heap.size, p, none⟩) (Nat.le_refl _) _).drew⟩
    case measure => (show T - (k + 1) < T - k; have := HLT.out; omega)
  ·obtain rfl : k = T := by omega
   clear hB hrow
   go_wp2_with fail
   go_ret
   refine ⟨w.heap.size, _, rfl, HO.out, hld_ws _ _ _, fun x => ?_, HB.out⟩
   rw [hld_has _ k (by have := HT.out.2; omega) (by omega), HT.out.1]
end Go.Proofs.YtdbgaccnejffpaaGreatDoor.Sat

namespace Go.Proofs.YtdbgaccnejffpaaGreatDoor.Paths
open Go.RowKit Go.Proofs.YtdbgaccnejffpaaGreatDoor.Ints Go.Proofs.YtdbgaccnejffpaaGreatDoor.Mem Go.Proofs.YtdbgaccnejffpaaGreatDoor.Src Go.Proofs.YtdbgaccnejffpaaGreatDoor.Tree Go.Proofs.YtdbgaccnejffpaaGreatDoor.BitsWalks Go.Proofs.YtdbgaccnejffpaaGreatDoor.RdW Go.Proofs.YtdbgaccnejffpaaGreatDoor.Words
def rowB (n : Nat) (f : Nat → Bool) : List Value := (List.range n).map fun j => .bool (f j)
theorem rowB_len (n : Nat) (f : Nat → Bool) : (rowB n f).length = n := by simp [rowB]
theorem rowB_at {n : Nat} {f : Nat → Bool} {j : Nat} (h : j < n) : (rowB n f)[j]? = some (.bool (f j)) := by
 unfold rowB
 rw [List.getElem?_map, List.getElem?_range h]
 rfl
theorem rowB_none {n : Nat} {f : Nat → Bool} {j : Nat} (h : ¬ j < n) : (rowB n f)[j]? = none := List.getElem?_eq_none (by rw [rowB_len]; omega)
theorem rowB_next (n : Nat) (f : Nat → Bool) (i : Nat) : (rowB n (fun j => decide (j < i) && f j)).set i (.bool (f i)) = rowB n (fun j => decide (j < i + 1) && f j) := by
 apply List.ext_getElem?
 intro q
 rw [List.getElem?_set, rowB_len]
 by_cases hq : q < n
 ·rw [rowB_at hq, rowB_at hq]
  by_cases e : i = q
  ·subst e
   rw [if_pos rfl, if_pos hq, decide_eq_true (show i < i + 1 by omega), Bool.true_and]
  ·rw [if_neg e]
   by_cases h2 : q < i
   ·rw [decide_eq_true h2, decide_eq_true (show q < i + 1 by omega)]
   ·rw [decide_eq_false h2, decide_eq_false (show ¬ q < i + 1 by omega)]
 ·rw [rowB_none hq, rowB_none hq]
  by_cases e : i = q
  ·rw [if_pos e, if_neg (by omega)]
  ·rw [if_neg e]
theorem rowB_zero (n : Nat) (f : Nat → Bool) : rowB n (fun j => decide (j < 0) && f j) = List.replicate n (.bool false) := by
 unfold rowB
 rw [show (fun j => Value.bool (decide (j < 0) && f j)) = fun _ => Value.bool false from funext fun j => by simp, List.map_const', List.length_range]
theorem rowB_full (n : Nat) (f : Nat → Bool) : rowB n (fun j => decide (j < n) && f j) = rowB n f := by
 unfold rowB
 apply List.map_congr_left
 intro j hj
 show Value.bool (decide (j < n) && f j) = Value.bool (f j)
 rw [decide_eq_true (List.mem_range.1 hj), Bool.true_and]
theorem rd_one {w : World} {r x : Nat} (h : w.cell? ⟨r, 0, none⟩ = some (.int .u64 ((x : Nat) : Int))) (hx : x < 18446744073709551616) : RdW w (some ⟨r, 0, none⟩) 1 [x] := by
 refine ⟨rfl, fun j hj => ?_, fun _ => ⟨r, 0, rfl, fun j hj => ?_⟩⟩
 ·obtain rfl : j = 0 := by omega
  exact word_wf hx
 ·obtain rfl : j = 0 := by omega
  exact h
set_option maxHeartbeats 4000000 in
set_option maxRecDepth 100000 in
theorem landRow (r x nv : Nat) (w : World) (hc : w.cell? ⟨r, 0, none⟩ = some (.int .u64 ((x : Nat) : Int))) (hx : x < 18446744073709551616) (hnv : nv ≤ 1000000) :
  Calls Tryz.prog 96 #[.slice (some ⟨r, 0, none⟩) 1 1, .int .i64 (nv : Nat)] w fun e w' => ∃ B, e = .returned (.slice (some ⟨B, 0, none⟩) nv nv) ∧ w'.ownsRow w.heap.size 4 1 (.slice (some ⟨B, 0, none⟩) nv nv) nv (rowB nv (fun j => hasI [x] ((j : Nat) : Int))) ∧ Below w.heap.size w w' := by
 have q63 : maxLen = 9223372036854775807 := rfl
 obtain ⟨i1, hi1, hy0, hy1, hy2⟩ := info_parts infoBl
 have b2 : i1.bytes * nv ≤ 281474976710656 := by rw [hy2]; omega
 have b3 : nv ≤ maxLen := by omega
 have HR := Lib.hid (rd_one hc hx)
 have HF := Lib.hid (show ∀ j, (fun j : Nat => hasI [x] ((j : Nat) : Int)) j = hasI [x] ((j : Nat) : Int) from fun _ => rfl)
 obtain ⟨f, hf⟩ : ∃ f : Nat → Bool, (fun j : Nat => hasI [x] ((j : Nat) : Int)) = f := ⟨_, rfl⟩
 have HFE := Lib.hid (show ∀ j : Nat, hasI [x] ((j : Nat) : Int) = f j from fun j => by rw [← hf])
 rw [hf]
 clear hc hf HF
 go_enter Tryz.func96, Tryz.ntmps96
 go_wp2_with (at_make; refine wpList_make_full _ rfl (.tmp 7) (.tmp 7) 52 rfl w.heap.size 4 i1 (.bool false) 1 Tryz.underlying52 hi1 hy0 hy1 .i64 .i64 _ _ nv rfl rfl rfl rfl b2 b3 (Nat.le_refl _) ?_; intro w1 hmade hgr1; rw [made_bools] at hmade)
 have HM := Lib.hid hmade
 have HG := Lib.hid hgr1
 clear hmade hgr1
 go_loopw [11] (fun v wr => ∃ (i : Nat), v = .int .i64 (i : Nat) ∧ i ≤ nv ∧ wr.ownsRow w.heap.size 4 1 (.slice (some ⟨w.heap.size, 0, none⟩) nv nv) nv (rowB nv (fun j => decide (j < i) && f j)) ∧ Below w.heap.size w wr) (fun v _ => nv - (intOf v).toNat)
 case atStart => exact ⟨0, rfl, Nat.zero_le _, by rw [rowB_zero]; exact HM.out, ⟨HG.out.os, HG.out.tape, HG.out.output, HG.out.size, fun k hk => HG.out.block k hk (by simp)⟩⟩
 case round =>
  obtain ⟨i, rfl, hin, hout, hB⟩ := hrel
  have HO := Lib.hid hout
  have HB := Lib.hid hB
  by_cases hlt : i < nv
  ·have c0 := hout.cells (g := w.heap.size) rfl i _ (rowB_at hlt)
   rw [Addr.add_lit, Nat.zero_add] at c0
   have f0 := own_fz hout i
   have HH := Lib.hid (has_ (some ⟨r, 0, none⟩) 1 1 [x] wr ((i : Nat) : Int) (by omega) (HR.out.below HB.out))
   rw [HFE.out i] at HH
   have HN := Lib.hid (own_put (k := i) hout (.bool (f i)))
   rw [rowB_next] at HN
   have HBN := Lib.hid (hB.setCell (p := ⟨w.heap.size, i, none⟩) (Nat.le_refl _) (.bool (f i)))
   obtain ⟨fi, hfi⟩ : ∃ b, f i = b := ⟨_, rfl⟩
   rw [hfi] at HH HN HBN
   clear hout hB hfi
   go_wp2_with (go_at_call 102; refine HH.out.mono ?_; rintro e w2 ⟨rfl, rfl⟩)
   go_roundw
   case rel => exact ⟨i + 1, by simp, by omega, HN.out, HBN.out⟩
   case measure => (show nv - (i + 1) < nv - i; omega)
  ·obtain rfl : i = nv := by omega
   have HN := Lib.hid hout
   rw [rowB_full] at HN
   clear hout hB
   go_wp2_with fail
   go_ret
   exact ⟨w.heap.size, rfl, HN.out, HB.out⟩
theorem run_clear_one (w : World) (r x : Nat) (hc : w.cell? ⟨r, 0, none⟩ = some (.int .u64 ((x : Nat) : Int))) (hf : w.frozen? ⟨r, 0, none⟩ = false) (ty : TypeId) :
  (Builtin.clear_ #[107] ty #[.slice (some ⟨r, 0, none⟩) 1 1]).run Tryz.prog w = .ok (.tuple #[]) (w.setCell ⟨r, 0, none⟩ (.int .u64 0)) := by
 obtain ⟨i1, hi1, hy0, hy1, hy2⟩ := info_parts infoU
 have hz : (Builtin.zeroCells #[.int .u64 0] 1).toList = [.int .u64 0] := by simp [Builtin.zeroCells]
 have hs := Go.run_storeCells_cells (P := Tryz.prog) r 0 [.int .u64 0] 0 w (fun j hj => by
  have hj : j < 1 := hj
  obtain rfl : j = 0 := by omega
  exact Option.isSome_iff_exists.2 ⟨_, hc⟩) (fun j hj => by
  have hj : j < 1 := hj
  obtain rfl : j = 0 := by omega
  exact hf) (fun v hv => by rw [List.mem_singleton.1 hv]; rfl)
 have e : w.setCells r (0 + 0) [.int .u64 0] = w.setCell ⟨r, 0, none⟩ (.int .u64 0) := rfl
 rw [e] at hs
 have e0 : (Value.int .u64 0).cells = #[.int .u64 0] := rfl
 simp [Builtin.clear_, run_underlying Tryz.underlying107, zeroValue, typeInfo, hi1, hy0, e0, hz, hs]
theorem own_sl3 {w : World} {base : Nat} {e : TypeId} {size : Nat} {v : Value} {n : Nat} {xs : List Value} (h : w.ownsRow base e size v n xs) : ∃ A c, v = .slice A n c ∧ n ≤ c ∧ c ≤ maxLen ∧ (A = none → c = 0) ∧ (0 < n → ∃ r, A = some ⟨r, 0, none⟩) := by
 rcases h.2 with ⟨rfl, rfl⟩ | ⟨g, cap, cur, rfl, _, _, h3, h4, _⟩
 ·exact ⟨none, 0, rfl, Nat.le_refl _, (by decide), (fun _ => rfl), (fun h => by omega)⟩
 ·exact ⟨_, cap, rfl, h3, h4, (fun h => by cases h), (fun _ => ⟨g, rfl⟩)⟩
def stepG (sp : List Ed) (h : Nat → Nat) : Nat → Nat := sp.foldl (fun g e => updS g e.1 (g e.1 ||| h e.2.1)) (fun _ => 0)
theorem stepG_snoc (sp : List Ed) (e : Ed) (h : Nat → Nat) : stepG (sp ++ [e]) h = updS (stepG sp h) e.1 (stepG sp h e.1 ||| h e.2.1) := by unfold stepG; rw [List.foldl_append]; rfl
theorem take_snoc {l : List Ed} {k : Nat} {e : Ed} (h : l[k]? = some e) : l.take (k + 1) = l.take k ++ [e] := by
 rw [List.take_add_one, h]
 rfl
def zeroTo (g : Nat → Nat) (k : Nat) : Nat → Nat := fun i => if i < k then 0 else g i
theorem zeroTo_next (g : Nat → Nat) (k i : Nat) : updS (zeroTo g k) k 0 i = zeroTo g (k + 1) i := by
 unfold updS zeroTo
 by_cases e : i = k
 ·rw [if_pos e, if_pos (by omega)]
 ·rw [if_neg e]
  by_cases h : i < k
  ·rw [if_pos h, if_pos (by omega)]
  ·rw [if_neg h, if_neg (by omega)]
theorem or_small {x y : Nat} (hx : x < 18446744073709551616) (hy : y < 18446744073709551616) : x ||| y < 18446744073709551616 := Nat.or_lt_two_pow (n := 64) hx hy
def InRows (R : Nat → Nat) (np : Nat) (q : Nat) : Prop := ∃ i, i < np ∧ q = R i
set_option maxHeartbeats 8000000 in
set_option maxRecDepth 100000 in
theorem landStep (lo lo2 gp np nt B1 B2 : Nat) (R1 R2 g h : Nat → Nat) (sv pv : Value) (st sp : List Ed) (w : World) (hG : GMem w lo gp sv pv np nt st sp) (hS : Sets w lo2 B1 R1 np 1 g) (hT : Sets w lo2 B2 R2 np 1 h)
  (hR : ∀ i j, i < np → j < np → R1 i ≠ R2 j) (hB1 : ∀ i, i < np → R1 i ≠ B2) (hgl : gp < lo2) (hpl : ∀ q, pv.ownBlock = some q → q < lo2) (hE : ∀ e ∈ sp, e.1 < np ∧ e.2.1 < np) (hnp : np ≤ 2000000) (hsl : sp.length ≤ 2000000) :
  Calls Tryz.prog 94 #[.pointer (some ⟨gp, 0, none⟩), .slice (some ⟨B1, 0, none⟩) np np, .slice (some ⟨B2, 0, none⟩) np np] w fun e w' =>
   e = .returned (.tuple #[]) ∧ Sets w' lo2 B1 R1 np 1 (stepG sp h) ∧ Left (InRows R1 np) w w' := by
 have hlt := hS.lt
 have hlt2 := hT.lt
 have hdn : ∀ q, InRows R1 np q → lo2 ≤ q ∧ q < w.heap.size := fun q ⟨i, hi, e⟩ => e ▸ hlt.2 i hi
 have HD := Lib.hid hdn
 have HP := Lib.hid hG
 have HT := Lib.hid (show ∀ W, Left (InRows R1 np) w W → Sets W lo2 B2 R2 np 1 h from fun W hl => hT.left hl (fun ⟨i, hi, e⟩ => hB1 i hi e.symm) (fun j hj ⟨i, hi, e⟩ => hR i j hi hj e.symm))
 have HPV := Lib.hid (show ∀ W, Left (InRows R1 np) w W → W.ownsRow lo 129 3 pv sp.length (rowEd sp) from fun W hl => own_same' hG.sps (fun q e => hl.block q (hG.sps.lt q e).2 (fun hd => by have := hdn q hd; have := hpl q e; omega)))
 have HGB := Lib.hid (show ∀ W, Left (InRows R1 np) w W → W.cell? ⟨gp, 3, none⟩ = some pv from fun W hl => (World.cell?_of_block (a := ⟨gp, 3, none⟩) (hl.block gp hG.blk.1 (fun hd => by have := hdn gp hd; omega))).trans (hG.blk.cell 3 rfl))
 have HBL := Lib.hid (And.intro hlt hlt2)
 have HE := Lib.hid hE
 have HH := Lib.hid hT.wd
 have HR := Lib.hid (And.intro hR hB1)
 obtain ⟨A, c, e, hc1, -, -, -⟩ := own_sl3 hG.sps
 have hnp' : ((np : Nat) : Int) ≤ 2000000 := by omega
 have hsl' : ((sp.length : Nat) : Int) ≤ 2000000 := by omega
 obtain ⟨N, hN⟩ : ∃ N, sp.length = N := ⟨_, rfl⟩
 rw [hN] at e hsl' HPV hsl
 subst e
 have HN := Lib.hid hN
 have HS := Lib.hid (hS.ext (g' := zeroTo g 0) (fun i _ => by unfold zeroTo; rw [if_neg (Nat.not_lt_zero i)]))
 clear hG hS hT hR hB1 hgl hpl hE hlt hlt2 hdn hc1 hN
 go_enter Tryz.func94, Tryz.ntmps94
 go_wp2_with fail
 go_loopw [12] (fun v wr => ∃ (i : Nat), v = .int .i64 (i : Nat) ∧ i ≤ np ∧ Sets wr lo2 B1 R1 np 1 (zeroTo g i) ∧ Left (InRows R1 np) w wr) (fun v _ => np - (intOf v).toNat)
 case atStart => exact ⟨0, rfl, Nat.zero_le _, HS.out, Left.refl _ _⟩
 case round =>
  obtain ⟨i, rfl, hin, hs, hL⟩ := hrel
  have HSi := Lib.hid hs
  have HL := Lib.hid hL
  by_cases hlt : i < np
  ·have c0 := hs.outer hlt
   have c1 := hs.inner hlt
   have f1 := hs.fz hlt 0
   have hcl := fun ty => run_clear_one wr (R1 i) _ c1 f1 ty
   have HN2 := Lib.hid ((hs.set hlt 0 (by decide)).ext (fun j _ => zeroTo_next g i j))
   have HL2 := Lib.hid (hL.set ⟨R1 i, 0, none⟩ (.int .u64 0) ⟨i, hlt, rfl⟩)
   clear hs hL c1 f1
   go_wp2_with fail
   go_roundw
   case rel => exact ⟨i + 1, by simp, by omega, HN2.out, HL2.out⟩
   case measure => (show np - (i + 1) < np - i; omega)
  ·obtain rfl : i = np := by omega
   have c3 := HGB.out wr HL.out
   have HS0 := Lib.hid (hs.ext (g' := stepG (sp.take 0) h) (fun j hj => by unfold zeroTo; rw [if_pos hj]; rfl))
   clear hs hL hin hlt
   go_wp2_with fail
   obtain ⟨wo, hwo⟩ : ∃ wo, wr = wo := ⟨_, rfl⟩
   subst hwo
   go_loopw [23] (fun v wr => ∃ (k : Nat), v = .int .i64 (k : Nat) ∧ k ≤ N ∧ Sets wr lo2 B1 R1 i 1 (stepG (sp.take k) h) ∧ Left (InRows R1 i) w wr) (fun v _ => N - (intOf v).toNat)
   case atStart => exact ⟨0, rfl, Nat.zero_le _, HS0.out, HL.out⟩
   case round =>
    obtain ⟨k, rfl, hkn, hs, hL⟩ := hrel
    have HL2 := Lib.hid hL
    by_cases hlt : k < N
    ·obtain ⟨⟨u, v, t⟩, hed⟩ : ∃ ed, sp[k]? = some ed := ⟨_, List.getElem?_eq_getElem (by have := HN.out; omega)⟩
     obtain ⟨hu, hv⟩ := HE.out _ (List.mem_of_getElem? hed)
     have hu : u < i := hu
     have hv : v < i := hv
     have hpv := HPV.out wr HL2.out
     obtain ⟨A', c', e', -, -, -, hA⟩ := own_sl3 hpv
     obtain ⟨r, rfl⟩ : ∃ r, A = some ⟨r, 0, none⟩ := by
      injection e' with e1 e2 e3
      rw [e1]
      exact hA (by omega)
     obtain ⟨x0, x1, x2⟩ := rowEd_at hed
     have c0 := hpv.cells (g := r) rfl _ _ x0
     have c1 := hpv.cells (g := r) rfl _ _ x1
     have c2 := hpv.cells (g := r) rfl _ _ x2
     rw [Addr.add_lit, Nat.zero_add, Nat.mul_comm 3 k] at c0 c1 c2
     have hal : Below wr.heap.size wr (wr.alloc (.cells #[.int .i64 (u : Nat), .int .i64 (v : Nat), .int .i64 t] 129)) := (Below.refl _ _).alloc (Nat.le_refl _) _
     obtain ⟨V, hV⟩ : ∃ V, (wr.alloc (.cells #[.int .i64 (u : Nat), .int .i64 (v : Nat), .int .i64 t] 129)).drew = V := ⟨_, rfl⟩
     have hbV : Below wr.heap.size wr V := by rw [← hV]; exact hal.drew
     have hx : Blk V wr.heap.size [.int .i64 (u : Nat), .int .i64 (v : Nat), .int .i64 t] := by rw [← hV]; exact (Blk.new wr _ _ _ rfl).drew
     have hs1 := hs.below hbV
     have hl1 := HL2.out.trans (Left.of_below hbV)
     have ht1 := HT.out V hl1
     have hxl := hx.1
     have d0 := hx.cell 0 rfl
     have d1 := hx.cell 1 rfl
     have d2 := hs1.outer hu
     have d3 := ht1.outer hv
     have HADD := Lib.hid (landAdd (R1 u) (R2 v) _ _ V (hs1.inner hu) (hs1.fz hu 0) (ht1.inner hv) (hs1.wd u hu) (ht1.wd v hv))
     have HSV := Lib.hid ((hs1.set hu _ (or_small (hs1.wd u hu) (ht1.wd v hv))).ext (g' := stepG (sp.take (k + 1)) h) (fun j _ => by rw [take_snoc hed, stepG_snoc]))
     have HLV := Lib.hid (hl1.set ⟨R1 u, 0, none⟩ (.int .u64 ((stepG (sp.take k) h u ||| h v : Nat) : Int)) ⟨u, hu, rfl⟩)
     have hne1 : R1 u ≠ wr.heap.size := fun e => by have := (hs.lt.2 u hu).2; omega
     have hne2 : R1 u ≠ B1 := (hs.off u hu).1
     have hne3 : R1 u ≠ B2 := HR.out.2 u hu
     have HS1 := Lib.hid (show (∀ z : Value, ((V.setCell ⟨R1 u, 0, none⟩ z).cell? ⟨wr.heap.size, 0, none⟩ = some (.int .i64 (u : Nat)) ∧ (V.setCell ⟨R1 u, 0, none⟩ z).cell? ⟨wr.heap.size, 1, none⟩ = some (.int .i64 (v : Nat)) ∧ (V.setCell ⟨R1 u, 0, none⟩ z).cell? ⟨B1, u, none⟩ = some (.slice (some ⟨R1 u, 0, none⟩) 1 1) ∧ (V.setCell ⟨R1 u, 0, none⟩ z).cell? ⟨B2, v, none⟩ = some (.slice (some ⟨R2 v, 0, none⟩) 1 1))) from fun z => by
      have go : ∀ (q o : Nat) (y : Value), R1 u ≠ q → V.cell? ⟨q, o, none⟩ = some y → (V.setCell ⟨R1 u, 0, none⟩ z).cell? ⟨q, o, none⟩ = some y := fun q o y hq hy => (World.cell?_of_block (w := V) (a := ⟨q, o, none⟩) (Below.heap_setCell V _ z q (fun e => hq e.symm))).trans hy
      exact ⟨go _ _ _ hne1 d0, go _ _ _ hne1 d1, go _ _ _ hne2 d2, go _ _ _ hne3 d3⟩)
     have HS0' := Lib.hid (show V.cell? ⟨wr.heap.size, 0, none⟩ = some (.int .i64 (u : Nat)) ∧ V.cell? ⟨wr.heap.size, 1, none⟩ = some (.int .i64 (v : Nat)) ∧ V.cell? ⟨B1, u, none⟩ = some (.slice (some ⟨R1 u, 0, none⟩) 1 1) ∧ V.cell? ⟨B2, v, none⟩ = some (.slice (some ⟨R2 v, 0, none⟩) 1 1) from ⟨d0, d1, d2, d3⟩)
     have hui : ((u : Nat) : Int) < ((i : Nat) : Int) := by omega
     have hvi : ((v : Nat) : Int) < ((i : Nat) : Int) := by omega
     clear hs hL hpv hA e' x0 x1 x2 hal hbV hx hs1 hl1 ht1 hxl d0 d1 d2 d3 hne1 hne2 hne3 hed hu hv
     go_wp2_with fail
     refine wp_region_held_drew (S := fun W => W.cell? ⟨wr.heap.size, 0, none⟩ = some (.int .i64 (u : Nat)) ∧ W.cell? ⟨wr.heap.size, 1, none⟩ = some (.int .i64 (v : Nat)) ∧ W.cell? ⟨B1, u, none⟩ = some (.slice (some ⟨R1 u, 0, none⟩) 1 1) ∧ W.cell? ⟨B2, v, none⟩ = some (.slice (some ⟨R2 v, 0, none⟩) 1 1)) (by kernel_rfl) (by rw [hV]; exact HS0'.out) (fun hHeld => ?_)
     rw [hV] at hHeld ⊢
     refine tkOp 0 hHeld ?_
     refine tkOp 1 hHeld ?_
     refine tkOp 2 hHeld ?_
     refine tkOp 3 hHeld ?_
     refine tkOp 4 hHeld ?_
     refine tkOp 5 hHeld ?_
     refine tkOp 6 hHeld ?_
     refine tkOp 7 hHeld ?_
     refine tkOp 8 hHeld ?_
     refine tkOp 9 hHeld ?_
     refine tkCall 10 (fun Kt hKt => ?_)
     go_simp
     (go_at_call 100; refine HADD.out.mono ?_; rintro e w2 ⟨rfl, rfl⟩)
     refine hKt.out _ _ ?_ (fun hT => ?_)
     ·(exact HS1.out _)
     clear hKt Kt hHeld
     have hHeld := hT
     clear hT
     try simp only [Act.put, tkA, tkB, tkC]
     refine wpAnyH_done (by kernel_rfl) ?_ _
     clear hHeld
     go_wp2_with fail
     go_roundw
     case rel => exact ⟨k + 1, by simp, by omega, HSV.out, HLV.out⟩
     case measure => (show N - (k + 1) < N - k; omega)
    ·obtain rfl : k = N := by omega
     have HF := Lib.hid (hs)
     rw [List.take_of_length_le (by have := HN.out; omega)] at HF
     clear hs hL
     go_wp2_with fail
     go_end0
     exact ⟨rfl, HF.out, HL2.out⟩
end Go.Proofs.YtdbgaccnejffpaaGreatDoor.Paths
