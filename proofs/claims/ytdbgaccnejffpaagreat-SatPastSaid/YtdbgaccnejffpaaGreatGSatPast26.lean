/-
  The walks of package bits and of its reference: within, the same, how many, how many words are wanted; two lists of words, two lists of numbers. By an AI agent.
  The walks of package bits: what makes a set: Or. By an AI agent.
  The walks of the reference: what makes a set: Trim, Or, And, Less. By an AI agent.
  The walks of Of, the program's and the reference's. By an AI agent.
  The landed add at every node; hold: the set of the tests that hold at a point (stage 15). By an AI agent.
-/
import Derived.Test.YtdbgaccnejffpaaGreatGSatPast6
import Derived.OwnWalk
import Derived.Lib.MinMax
import Derived.RegionTactic
import Derived.BigRegion
import Derived.Laws.CopyOwn
import Derived.Test.YtdbgaccnejffpaaGreatGSatPast1
import Derived.Test.YtdbgaccnejffpaaGreatGSatPast25
namespace Go.Proofs.YtdbgaccnejffpaaGreat.BitsWalks
open Go.RowKit Go.Proofs.YtdbgaccnejffpaaGreat.Ints Go.Proofs.YtdbgaccnejffpaaGreat.Words Go.Proofs.YtdbgaccnejffpaaGreat.RdW

def within (xs ys : List Nat) : Bool := decide (∀ j, j < xs.length → anot (wd xs j) (wd ys j) = 0)
section
variable (A B : Option Addr) (n c m d : Nat) (xs ys : List Nat) (zs us : List Int) (w : World)

def same (xs ys : List Nat) : Bool := within xs ys && within ys xs
end
end Go.Proofs.YtdbgaccnejffpaaGreat.BitsWalks

namespace Go.Proofs.YtdbgaccnejffpaaGreat.BitsWalks
open Go.RowKit Go.Proofs.YtdbgaccnejffpaaGreat.Ints Go.Proofs.YtdbgaccnejffpaaGreat.Words Go.Proofs.YtdbgaccnejffpaaGreat.RdW

def GotSet (w : World) (L : Nat) (f : Nat → Bool) (e : Ending) (w' : World) : Prop :=
 ∃ (A : Option Addr) (n c : Nat) (zs : List Nat), e = .returned (.slice A n c) ∧ IsSet zs f ∧ RdW w' A n zs ∧ n ≤ c ∧ c ≤ maxLen ∧ n ≤ L ∧ Below w.heap.size w w'

theorem infoW : (Tryz.prog.info? 28).map (fun i => (i.zero, i.size, i.bytes)) = some (some (.int .u64 0), 1, 8) := by kernel_rfl

abbrev Row (w : World) (base g K c : Nat) (xs : List Nat) : Prop := w.ownsRow base 28 1 (.slice (some ⟨g, 0, none⟩) K c) K ((ints xs).map (Value.int .u64))
theorem made_words (n : Nat) : (madeCells (Value.int .u64 0).cells (n * 1)).toList = (ints (List.replicate n 0)).map (Value.int .u64) := by
 rw [Nat.mul_one]
 apply List.ext_getElem
 · simp [madeCells, ints]
 · intro i h1 h2
   have e : (Value.int .u64 0).cells = #[Value.int .u64 0] := rfl
   simp [madeCells, ints, e, Nat.mod_one]

section
variable {w : World}
theorem Row.reads {base g K c : Nat} {xs : List Nat} (h : Row w base g K c xs) (hw : Ws xs) : RdW w (some ⟨g, 0, none⟩) K xs := RdW.own h hw
theorem Row.set {base g K c : Nat} {xs : List Nat} (h : Row w base g K c xs) (j x : Nat) : Row (w.setCell ⟨g, j, none⟩ (.int .u64 x)) base g K c (xs.set j x) := by
 have := own_set h j (x : Int)
 rwa [ints_set] at this
theorem Row.cell {base g K c : Nat} {xs : List Nat} (h : Row w base g K c xs) {j : Nat} (hj : j < K) : w.cell? ⟨g, j, none⟩ = some (.int .u64 (wd xs j : Nat)) := by
 rw [own_cell h hj, ints_at]; rfl
theorem Row.caps {base g K c : Nat} {xs : List Nat} (h : Row w base g K c xs) : K ≤ c ∧ c ≤ maxLen := by
 obtain ⟨A, c', e, h1, h2, _⟩ := own_slice h
 injection e with _ _ e
 subst e
 exact ⟨h1, h2⟩
theorem GotSet.row {w0 : World} {base g K c n L : Nat} {xs : List Nat} {f : Nat → Bool} (h : Row w base g K c xs) (hw : Ws xs) (hn : n ≤ K) (hL : n ≤ L) (hs : IsSet (xs.take n) f) (hb : Below w0.heap.size w0 w) :
   GotSet w0 L f (.returned (.slice (some ⟨g, 0, none⟩) n c)) w :=
 ⟨_, n, c, _, rfl, hs, (h.reads hw).take hn, Nat.le_trans hn h.caps.1, h.caps.2, hL, hb⟩
end

section
variable (A B : Option Addr) (n c m d : Nat) (xs ys : List Nat) (w : World)

end
end Go.Proofs.YtdbgaccnejffpaaGreat.BitsWalks

namespace Go.Proofs.YtdbgaccnejffpaaGreat.BitsWalks
open Go.RowKit Go.Proofs.YtdbgaccnejffpaaGreat.Ints Go.Proofs.YtdbgaccnejffpaaGreat.Words Go.Proofs.YtdbgaccnejffpaaGreat.RdW

theorem GotSet.own {w w1 : World} {L k base : Nat} {f : Nat → Bool} {v : Value} {zs : List Nat} (h : w1.ownsRow base 28 1 v k ((ints zs).map (Value.int .u64))) (hs : IsSet zs f) (hL : k ≤ L) (hb : Below w.heap.size w w1) : GotSet w L f (.returned v) w1 := by
 obtain ⟨A, c, rfl, h1, h2, _⟩ := own_slice h
 exact ⟨A, k, c, zs, rfl, hs, RdW.own h hs.1, h1, h2, hL, hb⟩

section
variable (A B : Option Addr) (n c m d : Nat) (xs ys : List Nat) (w : World)

end
end Go.Proofs.YtdbgaccnejffpaaGreat.BitsWalks

namespace Go.Proofs.YtdbgaccnejffpaaGreat.BitsWalks
open Go.RowKit Go.Proofs.YtdbgaccnejffpaaGreat.Ints Go.Proofs.YtdbgaccnejffpaaGreat.Words Go.Proofs.YtdbgaccnejffpaaGreat.RdW

def may (z : Int) : Prop := 0 ≤ z ∧ z ≤ 4095
instance (z : Int) : Decidable (may z) := by unfold may; exact inferInstance
def put (L : List Nat) (z : Int) : List Nat := if may z then L.set (z.toNat / 64) (wd L (z.toNat / 64) ||| 2 ^ (z.toNat % 64)) else L
theorem put_len (L : List Nat) (z : Int) : (put L z).length = L.length := by
 unfold put
 split <;> simp
theorem pow_bit (b i : Nat) : (2 ^ b).testBit i = decide (b = i) := Nat.testBit_two_pow
theorem pow_lt {b : Nat} (h : b < 64) : 2 ^ b < 18446744073709551616 := Nat.pow_lt_pow_right (a := 2) (m := b) (n := 64) (by omega) h
theorem put_ws {L : List Nat} {z : Int} (h : Ws L) : Ws (put L z) := by
 unfold put
 split
 · intro j
   rw [List.getElem?_set]
   split
   · split
     · exact or_lt (h _) (pow_lt (by omega))
     · simp
   · exact h j
 · exact h
theorem put_has {L : List Nat} {z : Int} (hz : may z → z.toNat / 64 < L.length) (i : Nat) : has (put L z) i = (has L i || decide (may z ∧ (i : Int) = z)) := by
 unfold put
 by_cases hm : may z
 · have hlt := hz hm
   obtain ⟨hm0, hm1⟩ := hm
   rw [if_pos ⟨hm0, hm1⟩]
   unfold has
   rw [List.getElem?_set]
   by_cases hq : z.toNat / 64 = i / 64
   · rw [if_pos hq, if_pos hlt, Option.getD_some, Nat.testBit_or, pow_bit]
     unfold wd
     rw [hq]
     congr 1
     congr 1
     apply propext
     constructor
     · intro h; exact ⟨⟨hm0, hm1⟩, by omega⟩
     · rintro ⟨_, h⟩; omega
   · rw [if_neg hq]
     have : decide (may z ∧ (i : Int) = z) = false := by
       rw [decide_eq_false_iff_not]
       rintro ⟨_, h⟩
       exact hq (by omega)
     rw [this, Bool.or_false]
 · rw [if_neg hm]
   have : decide (may z ∧ (i : Int) = z) = false := by
     rw [decide_eq_false_iff_not]
     rintro ⟨h, _⟩
     exact hm h
   rw [this, Bool.or_false]
theorem has_zeros (K i : Nat) : has (List.replicate K 0) i = false := by
 unfold has
 rw [List.getElem?_replicate]
 split <;> simp
theorem or_bit (x b : Nat) (hx : x < 18446744073709551616) (hb : b < 64) : bits .or .u64 (x : Int) (IntKind.u64.wrap ((2 : Int) ^ b)) = ((x ||| 2 ^ b : Nat) : Int) := by
 have h1 := pow_lt hb
 have h0 := Nat.two_pow_pos b
 have e1 : (2 : Int) ^ b = ((2 ^ b : Nat) : Int) := by rw [Int.natCast_pow]; rfl
 have e2 : IntKind.u64.wrap ((2 : Int) ^ b) = ((2 ^ b : Nat) : Int) := by
   rw [e1, IntKind.wrap_u64]
   omega
 rw [e2, bits_or_u64_nat x (2 ^ b) hx h1]
section
variable (A : Option Addr) (n c : Nat) (zs : List Int) (w : World)

end
end Go.Proofs.YtdbgaccnejffpaaGreat.BitsWalks

namespace Go.Proofs.YtdbgaccnejffpaaGreat.Sat
open Go.RowKit Go.Proofs.YtdbgaccnejffpaaGreat.Ints Go.Proofs.YtdbgaccnejffpaaGreat.Mem Go.Proofs.YtdbgaccnejffpaaGreat.Src Go.Proofs.YtdbgaccnejffpaaGreat.Paths Go.Proofs.YtdbgaccnejffpaaGreat.Late Go.Proofs.YtdbgaccnejffpaaGreat.Trace Go.Proofs.YtdbgaccnejffpaaGreat.RdW Go.Proofs.YtdbgaccnejffpaaGreat.Words Go.Proofs.YtdbgaccnejffpaaGreat.BitsWalks

theorem landAddN (J : Jd) (w0 : World) (lo gw : Nat) (bv : Nat → Nat) (hml : Tree.mayL J.l = true) (hgj : J.gj < lo) (hbt : J.bt < lo) : ∀ i, i < J.l.length → Tree.regKind (kindN J.l i) = true → AddC J w0 lo gw bv i (reI J.l i) := by
 intro i
 induction i using Nat.strongRecOn with
 | ind i ih =>
   intro hi hr
   have hnd := tests_nodup hml hi hr
   rcases kidc_reg hr with ⟨e, hk⟩ | ⟨e, hk⟩ | ⟨e, hk⟩ | ⟨e, hk⟩
   · rw [reI_step e] at hnd ⊢
     exact add_kids J w0 lo gw bv i _ hi (fun y h => by cases h) e (by rw [hk]; rfl) (fun q a h => by cases h) hnd hgj hbt
   · rw [reI_test e]
     exact add_test J w0 lo gw bv i hi e hgj hbt
   · obtain ⟨a1, a2⟩ := kidN_two hml hi hk
     obtain ⟨r1, r2⟩ := kid_reg2 hml hi e
     have x1 := ih _ a1 (by omega) r1
     have x2 := ih _ a2 (by omega) r2
     have hq : ∀ q a, [reI J.l (kidN J.l i 0), reI J.l (kidN J.l i 1)][q]? = some a → AddC J w0 lo gw bv (kidN J.l i q) a := fun q a h => by
       match q, h with
       | 0, h => injection h with h; rw [← h]; exact x1
       | 1, h => injection h with h; rw [← h]; exact x2
     rcases e with e | e
     · rw [reI_alt hml hi e] at hnd ⊢
       exact add_kids J w0 lo gw bv i _ hi (fun y h => by cases h) e (by rw [hk]; rfl) hq hnd hgj hbt
     · rw [reI_seq hml hi e] at hnd ⊢
       exact add_kids J w0 lo gw bv i _ hi (fun y h => by cases h) e (by rw [hk]; rfl) hq hnd hgj hbt
   · have a1 := kidN_one hml hi hk
     rw [reI_many hml hi e] at hnd ⊢
     exact add_kids J w0 lo gw bv i _ hi (fun y h => by cases h) e (by rw [hk]; rfl) (fun q a h => by
       match q, h with
       | 0, h => injection h with h; rw [← h]; exact ih _ a1 (by omega) (kid_reg1 hml hi (.inl e))) hnd hgj hbt
def hldL (f : Nat → Bool) (K : Nat) : Nat → List Nat
 | 0 => List.replicate K 0
 | k + 1 => if f k = true then put (hldL f K k) ((k : Nat) : Int) else hldL f K k
theorem hld_len (f : Nat → Bool) (K k : Nat) : (hldL f K k).length = K := by
 induction k with
 | zero => simp [hldL]
 | succ k ih => unfold hldL; split; exact (put_len _ _).trans ih; exact ih
theorem hld_ws (f : Nat → Bool) (K k : Nat) : Ws (hldL f K k) := by
 induction k with
 | zero => intro j; show (List.replicate K 0)[j]?.getD 0 < _; rw [List.getElem?_replicate]; split <;> simp
 | succ k ih => unfold hldL; split; exact put_ws ih; exact ih
theorem hld_has (f : Nat → Bool) {K : Nat} : ∀ k, k ≤ 64 * K → k ≤ 4096 → ∀ x, has (hldL f K k) x = (decide (x < k) && f x) := by
 intro k
 induction k with
 | zero => intro _ _ x; unfold hldL; rw [has_zeros, decide_eq_false (by omega)]; rfl
 | succ k ih =>
   intro h1 h2 x
   have ih := ih (by omega) (by omega) x
   unfold hldL
   by_cases hf : f k = true
   · rw [if_pos hf, put_has (fun hm => by rw [hld_len]; show (((k : Nat) : Int)).toNat / 64 < K; rw [Int.toNat_natCast]; omega), ih]
     by_cases e : x = k
     · subst e
       rw [decide_eq_false (Nat.lt_irrefl _), decide_eq_true (by unfold may; omega), decide_eq_true (Nat.lt_succ_self _), hf]; rfl
     · rw [decide_eq_false (show ¬ (may ((k : Nat) : Int) ∧ ((x : Nat) : Int) = ((k : Nat) : Int)) from fun h => e (by omega)), Bool.or_false]
       by_cases h3 : x < k
       · rw [decide_eq_true h3, decide_eq_true (by omega)]
       · rw [decide_eq_false h3, decide_eq_false (by omega)]
   · rw [if_neg hf, ih]
     by_cases e : x = k
     · subst e
       rw [decide_eq_false (Nat.lt_irrefl _)]
       have : f x = false := by simpa using hf
       rw [this]; simp
     · by_cases h3 : x < k
       · rw [decide_eq_true h3, decide_eq_true (by omega)]
       · rw [decide_eq_false h3, decide_eq_false (by omega)]
set_option maxHeartbeats 8000000 in
set_option maxRecDepth 100000 in
theorem landHold (lo gw n i : Nat) (lv tv vv : Value) (σ : List SN) (bs : List Nat) (f : Nat → Nat → Bool) (w : World) (h : WM w lo gw lv tv vv σ (bs.map fun b => tV n b)) (hr : ∀ k b, bs[k]? = some b → RB w b n (f k)) (hi : i < n) (_hn : n ≤ 1000) (hb : bs.length ≤ 1000) (K : Nat) (hK : (bs.length + 63) / 64 = K) :
   Calls Tryz.prog 116 #[.pointer (some ⟨gw, 0, none⟩), .int .i64 ((i : Nat) : Int)] w fun e w' => ∃ r zs, e = .returned (.slice (some ⟨r, 0, none⟩) K K) ∧ Row w' w.heap.size r K K zs ∧ Ws zs ∧ (∀ x, has zs x = (decide (x < bs.length) && f x i)) ∧ Below w.heap.size w w' := by
 have q63 : maxLen = 9223372036854775807 := rfl
 obtain ⟨i0, hi0, hz0, hz1, hz2⟩ := info_parts infoW
 obtain ⟨T, hT⟩ : ∃ T, bs.length = T := ⟨_, rfl⟩
 rw [hT] at hK
 have hts : ∃ A c, tv = .slice A T c ∧ (0 < T → ∃ q, A = some ⟨q, 0, none⟩) ∧ T ≤ c := by
   rcases h.tests.2 with ⟨e, e0⟩ | ⟨q, c, cur, e, -, -, hc, -⟩
   · rw [List.length_map, hT] at e0
     exact ⟨none, 0, by rw [e, e0], fun h0 => by omega, by omega⟩
   · rw [List.length_map, hT] at e hc
     exact ⟨_, c, e, fun _ => ⟨q, rfl⟩, hc⟩
 obtain ⟨A, c, rfl, hA, hTc⟩ := hts
 have b1 : i0.bytes * K ≤ 281474976710656 := by rw [hz2]; omega
 have b2 : K ≤ maxLen := by omega
 have hTi : ((T : Nat) : Int) ≤ 1000 := by omega
 have hw1 : IntKind.i64.wrap (((T : Nat) : Int) + 64) = ((T + 64 : Nat) : Int) := by rw [show ((T : Nat) : Int) + 64 = ((T + 64 : Nat) : Int) by omega]; exact wrap_small _ (by omega)
 have hdq : (((T : Nat) : Int) + 64 - 1) / 64 = ((K : Nat) : Int) := by omega
 have HDQ := Lib.hid hdq
 have HW := Lib.hid h
 have HR := Lib.hid hr
 have HT := Lib.hid (And.intro hT hK)
 have c1 := h.blk.cell 1 rfl
 clear h hr hT hK hb
 go_enter Tryz.func116, Tryz.ntmps116
 go_wp2_with (at_make; refine wpList_make_full _ rfl (.tmp 15) (.tmp 15) 117 rfl w.heap.size 28 i0 (.int .u64 0) 1 Tryz.underlying117 hi0 hz0 hz1 .i64 .i64 _ _ K (congrArg (Value.int .i64) HDQ.out) (congrArg (Value.int .i64) HDQ.out) rfl rfl b1 b2 (Nat.le_refl _) ?_; intro w1 hmade hgr1; rw [made_words] at hmade; have c1w := hgr1.cell c1 (by simp))
 have HM := Lib.hid (show Row w1 w.heap.size w.heap.size K K (hldL (fun k => f k i) K 0) from hmade)
 have HG := Lib.hid (show Below w.heap.size w w1 from ⟨hgr1.os, hgr1.tape, hgr1.output, hgr1.size, fun k hk => hgr1.block k hk (by simp)⟩)
 clear hmade hgr1 c1w c1 hdq hw1
 go_loopw [6, 7, 22] (fun _ _ v wr => ∃ k : Nat, v = .int .i64 (k : Nat) ∧ k ≤ T ∧ Row wr w.heap.size w.heap.size K K (hldL (fun k => f k i) K k) ∧ Below w.heap.size w wr) (fun _ _ v _ => T - (intOf v).toNat)
 case atStart => exact ⟨0, rfl, Nat.zero_le _, HM.out, HG.out⟩
 case round =>
   obtain ⟨k, rfl, hkT, hrow, hB⟩ := hrel
   have HO := Lib.hid hrow
   have HB := Lib.hid hB
   by_cases hlt : k < T
   · obtain ⟨b, hbk⟩ : ∃ b, bs[k]? = some b := ⟨_, List.getElem?_eq_getElem (by rw [HT.out.1]; exact hlt)⟩
     obtain ⟨q, rfl⟩ := hA (by omega)
     have y1 := World.ownsRow.cells (below_row HW.out.tests hB) (g := q) rfl k (tV n b) (by rw [List.getElem?_map, hbk]; rfl)
     rw [Addr.add_lit, Nat.zero_add] at y1
     unfold tV at y1
     have x1 := ((HR.out k b hbk).below hB) i hi
     have hki : ((k : Nat) : Int) < ((T : Nat) : Int) := by omega
     have hii : ((i : Nat) : Int) < ((n : Nat) : Int) := by omega
     clear hB hrow hbk
     cases hf : f k i
     · rw [hf] at x1
       have HF := Lib.hid (show hldL (fun k => f k i) K (k + 1) = hldL (fun k => f k i) K k from by
         show (if f k i = true then _ else _) = _
         rw [if_neg (by rw [hf]; decide)])
       clear hf
       go_wp2_with fail
       go_roundw
       case rel => exact ⟨k + 1, by simp, by omega, by rw [HF.out]; exact HO.out, HB.out⟩
       case measure => (show T - (k + 1) < T - k; omega)
     · rw [hf] at x1
       obtain ⟨L, hL⟩ : ∃ L, hldL (fun k => f k i) K k = L := ⟨_, rfl⟩
       obtain ⟨p, hpe⟩ : ∃ p, k / 64 = p := ⟨_, rfl⟩
       obtain ⟨t, hte⟩ : ∃ t, k % 64 = t := ⟨_, rfl⟩
       have HF := Lib.hid (show hldL (fun k => f k i) K (k + 1) = L.set p (wd L p ||| 2 ^ t) from by
         show (if f k i = true then put (hldL (fun k => f k i) K k) ((k : Nat) : Int) else _) = _
         rw [if_pos hf, hL]
         unfold put
         rw [if_pos (by unfold may; omega), Int.toNat_natCast, hpe, hte])
       have hpK : p < K := by have := HT.out.2; omega
       have hws : Ws L := by rw [← hL]; exact hld_ws _ _ _
       have hrow := HO.out
       rw [hL] at hrow
       have HO2 := Lib.hid hrow
       have hc2 := hrow.cell hpK
       have hc3 := hrow.frozenAt p
       have e5 := or_bit (wd L p) t (hws p) (by omega)
       have hq2 : IntKind.i64.wrap (((k : Nat) : Int) / 64) = ((p : Nat) : Int) := by
         rw [show ((k : Nat) : Int) / 64 = ((p : Nat) : Int) by omega]; exact wrap_small _ (by omega)
       have hr1 : ((k : Nat) : Int).tmod 64 = ((t : Nat) : Int) := by rw [Int.tmod_eq_emod_of_nonneg (by omega)]; omega
       have hr2 : ((k : Nat) : Int) % 64 = ((t : Nat) : Int) := by omega
       have hpKi : ((p : Nat) : Int) < ((K : Nat) : Int) := by omega
       have hp0 : (0 : Int) ≤ ((p : Nat) : Int) := by omega
       have ht64 : ((t : Nat) : Int) < 64 := by omega
       have ht0 : (0 : Int) ≤ ((t : Nat) : Int) := by omega
       have HLT := Lib.hid hlt
       clear hf hL hrow hws hpe hte hpK hlt
       go_wp2_with fail
       refine Late.drew [10] (S := fun V => V.cell? ⟨w.heap.size, p, none⟩ = some (.int .u64 ((wd L p : Nat) : Int))) (by kernel_rfl) hc2 (fun hHeld => ?_)
       refine ltOp 0 hHeld ?_
       refine ltOp 1 hHeld ?_
       refine ltOp 2 hHeld ?_
       refine ltOp 3 hHeld ?_
       refine ltOp 4 hHeld ?_
       refine ltOp 5 hHeld ?_
       refine ltOp 6 hHeld ?_
       refine ltOp 7 hHeld ?_
       refine ltOp 8 hHeld ?_
       refine ltOp 9 hHeld ?_
       refine ltLast 10 (fun Kt hKt => ?_)
       go_simp
       refine hKt.out _ _ trivial (fun hT => ?_)
       clear hKt Kt hHeld
       have hHeld := hT
       clear hT
       try simp only [Act.put, tkA, tkB, tkC]
       refine wpAnyH_done (by kernel_rfl) ?_ _
       clear hHeld
       go_wp2_with fail
       go_roundw
       case rel => exact ⟨k + 1, by simp, HLT.out, by rw [HF.out]; exact HO2.out.set p _, (HB.out.setCell (p := ⟨w.heap.size, p, none⟩) (Nat.le_refl _) _).drew⟩
       case measure => (show T - (k + 1) < T - k; have := HLT.out; omega)
   · obtain rfl : k = T := by omega
     clear hB hrow
     go_wp2_with fail
     go_ret
     refine ⟨w.heap.size, _, rfl, HO.out, hld_ws _ _ _, fun x => ?_, HB.out⟩
     rw [hld_has _ k (by have := HT.out.2; omega) (by omega), HT.out.1]
end Go.Proofs.YtdbgaccnejffpaaGreat.Sat
