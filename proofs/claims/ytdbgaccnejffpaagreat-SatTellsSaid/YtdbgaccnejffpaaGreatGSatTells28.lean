/-
  The walks of package bits and of its reference: within, the same, how many, how many words are wanted; two lists of words, two lists of numbers. By an AI agent.
  The walks of package bits: what makes a set: Or. By an AI agent.
  The walks of the reference: what makes a set: Trim, Or, And, Less. By an AI agent.
  The walks of Of, the program's and the reference's. By an AI agent.
  The walks of List, the program's and the reference's; the table of math/bits. By an AI agent.
  The reference's Trim, Of and List: what they hand back is a row of their own. By an AI agent. (Written by wip/tools/genowned14.py.)
  The walk of the law's ids (stage 8). By an AI agent.
  The walk of the reference's Add. By an AI agent.
  What the law's Make makes (stage 8), and its walk. By an AI agent.
  The walks of the landed package trace: own, first; clones. By an AI agent.
  The walks of the landed package trace: Cut, Add. By an AI agent.
-/
import Derived.Test.YtdbgaccnejffpaaGreatGSatTells11
import Derived.OwnWalk
import Derived.Lib.MinMax
import Derived.RegionTactic
import Derived.BigRegion
import Derived.Laws.CopyOwn
import Derived.Lib.TrailingZeros
import Derived.Test.YtdbgaccnejffpaaGreatGSatTells19
import Derived.Test.YtdbgaccnejffpaaGreatGSatTells23
import Derived.Test.YtdbgaccnejffpaaGreatGSatTells1
import Derived.Test.YtdbgaccnejffpaaGreatGSatTells2
import Derived.Test.YtdbgaccnejffpaaGreatGSatTells24
import Derived.Deep.AppendLies
namespace Go.Proofs.YtdbgaccnejffpaaGreat.BitsWalks
open Go.RowKit Go.Proofs.YtdbgaccnejffpaaGreat.Ints Go.Proofs.YtdbgaccnejffpaaGreat.Words Go.Proofs.YtdbgaccnejffpaaGreat.RdW
def within (xs ys : List Nat) : Bool := decide (∀ j, j < xs.length → anot (wd xs j) (wd ys j) = 0)
section
variable (A B : Option Addr) (n c m d : Nat) (xs ys : List Nat) (zs us : List Int) (w : World)
def same (xs ys : List Nat) : Bool := within xs ys && within ys xs
end
end Go.Proofs.YtdbgaccnejffpaaGreat.BitsWalks

namespace Go.Proofs.YtdbgaccnejffpaaGreat.BitsWalks
open Go.RowKit Go.Proofs.YtdbgaccnejffpaaGreat.Ints Go.Proofs.YtdbgaccnejffpaaGreat.Words Go.Proofs.YtdbgaccnejffpaaGreat.RdW
theorem infoW : (Tryz.prog.info? 28).map (fun i => (i.zero, i.size, i.bytes)) = some (some (.int .u64 0), 1, 8) := by kernel_rfl
abbrev Row (w : World) (base g K c : Nat) (xs : List Nat) : Prop := w.ownsRow base 28 1 (.slice (some ⟨g, 0, none⟩) K c) K ((ints xs).map (Value.int .u64))
theorem made_words (n : Nat) : (madeCells (Value.int .u64 0).cells (n * 1)).toList = (ints (List.replicate n 0)).map (Value.int .u64) := by
 rw [Nat.mul_one]
 apply List.ext_getElem
 ·simp [madeCells, ints]
 ·intro i h1 h2
  have e : (Value.int .u64 0).cells = #[Value.int .u64 0] := rfl
  simp [madeCells, ints, e, Nat.mod_one]
section
variable {w : World}
theorem Row.reads {base g K c : Nat} {xs : List Nat} (h : Row w base g K c xs) (hw : Ws xs) : RdW w (some ⟨g, 0, none⟩) K xs := RdW.own h hw
theorem Row.set {base g K c : Nat} {xs : List Nat} (h : Row w base g K c xs) (j x : Nat) : Row (w.setCell ⟨g, j, none⟩ (.int .u64 x)) base g K c (xs.set j x) := by
 have := own_set h j (x : Int)
 rwa [ints_set] at this
theorem Row.cell {base g K c : Nat} {xs : List Nat} (h : Row w base g K c xs) {j : Nat} (hj : j < K) : w.cell? ⟨g, j, none⟩ = some (.int .u64 (wd xs j : Nat)) := by
 rw [own_cell h hj, ints_at]; rfl
end
section
variable (A B : Option Addr) (n c m d : Nat) (xs ys : List Nat) (w : World)
end
end Go.Proofs.YtdbgaccnejffpaaGreat.BitsWalks

namespace Go.Proofs.YtdbgaccnejffpaaGreat.BitsWalks
open Go.RowKit Go.Proofs.YtdbgaccnejffpaaGreat.Ints Go.Proofs.YtdbgaccnejffpaaGreat.Words Go.Proofs.YtdbgaccnejffpaaGreat.RdW
section
variable (A B : Option Addr) (n c m d : Nat) (xs ys : List Nat) (w : World)
end
end Go.Proofs.YtdbgaccnejffpaaGreat.BitsWalks

namespace Go.Proofs.YtdbgaccnejffpaaGreat.BitsWalks
open Go.RowKit Go.Proofs.YtdbgaccnejffpaaGreat.Ints Go.Proofs.YtdbgaccnejffpaaGreat.Words Go.Proofs.YtdbgaccnejffpaaGreat.RdW
def may (z : Int) : Prop := 0 ≤ z ∧ z ≤ 4095
instance (z : Int) : Decidable (may z) := by unfold may; exact inferInstance
def put (L : List Nat) (z : Int) : List Nat := if may z then L.set (z.toNat / 64) (wd L (z.toNat / 64) ||| 2 ^ (z.toNat % 64)) else L
def puts (L : List Nat) (zs : List Int) : List Nat := zs.foldl put L
theorem puts_snoc (L : List Nat) (zs : List Int) (z : Int) : puts L (zs ++ [z]) = put (puts L zs) z := by simp [puts, List.foldl_append]
theorem put_len (L : List Nat) (z : Int) : (put L z).length = L.length := by
 unfold put
 split <;> simp
theorem pow_bit (b i : Nat) : (2 ^ b).testBit i = decide (b = i) := Nat.testBit_two_pow
theorem pow_lt {b : Nat} (h : b < 64) : 2 ^ b < 18446744073709551616 := Nat.pow_lt_pow_right (a := 2) (m := b) (n := 64) (by omega) h
theorem put_ws {L : List Nat} {z : Int} (h : Ws L) : Ws (put L z) := by
 unfold put
 split
 ·intro j
  rw [List.getElem?_set]
  split
  ·split
   ·exact or_lt (h _) (pow_lt (by omega))
   ·simp
  ·exact h j
 ·exact h
theorem puts_ws : ∀ (zs : List Int) {L : List Nat}, Ws L → Ws (puts L zs)
 | [], _, h => h
 | _ :: r, _, h => puts_ws r (put_ws h)
theorem put_has {L : List Nat} {z : Int} (hz : may z → z.toNat / 64 < L.length) (i : Nat) : has (put L z) i = (has L i || decide (may z ∧ (i : Int) = z)) := by
 unfold put
 by_cases hm : may z
 ·have hlt := hz hm
  obtain ⟨hm0, hm1⟩ := hm
  rw [if_pos ⟨hm0, hm1⟩]
  unfold has
  rw [List.getElem?_set]
  by_cases hq : z.toNat / 64 = i / 64
  ·rw [if_pos hq, if_pos hlt, Option.getD_some, Nat.testBit_or, pow_bit]
   unfold wd
   rw [hq]
   congr 1
   congr 1
   apply propext
   constructor
   ·intro h; exact ⟨⟨hm0, hm1⟩, by omega⟩
   ·rintro ⟨_, h⟩; omega
  ·rw [if_neg hq]
   have : decide (may z ∧ (i : Int) = z) = false := by
    rw [decide_eq_false_iff_not]
    rintro ⟨_, h⟩
    exact hq (by omega)
   rw [this, Bool.or_false]
 ·rw [if_neg hm]
  have : decide (may z ∧ (i : Int) = z) = false := by
   rw [decide_eq_false_iff_not]
   rintro ⟨h, _⟩
   exact hm h
  rw [this, Bool.or_false]
def ofI (zs : List Int) (i : Nat) : Bool := decide (i ≤ 4095 ∧ (i : Int) ∈ zs)
theorem puts_has : ∀ (zs : List Int) {L : List Nat}, (∀ z ∈ zs, may z → z.toNat / 64 < L.length) → ∀ i, has (puts L zs) i = (has L i || ofI zs i)
 | [], _, _, i => by simp [puts, ofI]
 | z :: r, L, h, i => by
  show has (puts (put L z) r) i = _
  rw [puts_has r (fun y hy hm => by rw [put_len]; exact h y (by simp [hy]) hm) i, put_has (h z (by simp)) i, Bool.or_assoc]
  congr 1
  unfold ofI may
  rw [Bool.eq_iff_iff, Bool.or_eq_true, decide_eq_true_iff, decide_eq_true_iff, decide_eq_true_iff, List.mem_cons]
  constructor
  ·rintro (⟨h1, h2⟩ | ⟨h1, h2⟩)
   ·exact ⟨by omega, .inl h2⟩
   ·exact ⟨h1, .inr h2⟩
  ·rintro ⟨h1, h2 | h2⟩
   ·exact .inl ⟨by omega, h2⟩
   ·exact .inr ⟨h1, h2⟩
theorem has_zeros (K i : Nat) : has (List.replicate K 0) i = false := by
 unfold has
 rw [List.getElem?_replicate]
 split <;> simp
theorem or_bit (x b : Nat) (hx : x < 18446744073709551616) (hb : b < 64) : bits .or .u64 (x : Int) (IntKind.u64.wrap ((2 : Int) ^ b)) = ((x ||| 2 ^ b : Nat) : Int) := by
 have h1 := pow_lt hb
 have h0 := Nat.two_pow_pos b
 have e1 : (2 : Int) ^ b = ((2 ^ b : Nat) : Int) := by rw [Int.natCast_pow]; rfl
 have e2 : IntKind.u64.wrap ((2 : Int) ^ b) = ((2 ^ b : Nat) : Int) := by
  rw [e1, IntKind.wrap_u64]
  omega
 rw [e2, bits_or_u64_nat x (2 ^ b) hx h1]
theorem put_at (L : List Nat) (m : Nat) (h : m ≤ 4095) : put L (m : Int) = L.set (m / 64) (wd L (m / 64) ||| 2 ^ (m % 64)) := by
 unfold put
 rw [if_pos (show may (m : Int) from ⟨by omega, by omega⟩)]
 rfl
theorem put_out (L : List Nat) (z : Int) (h : ¬ (0 ≤ z ∧ z ≤ 4095)) : put L z = L := by
 unfold put
 rw [if_neg (show ¬ may z from h)]
section
variable (A : Option Addr) (n c : Nat) (zs : List Int) (w : World)
end
end Go.Proofs.YtdbgaccnejffpaaGreat.BitsWalks

namespace Go.Proofs.YtdbgaccnejffpaaGreat.BitsWalks
open Go.RowKit Go.Proofs.YtdbgaccnejffpaaGreat.Ints Go.Proofs.YtdbgaccnejffpaaGreat.Words Go.Proofs.YtdbgaccnejffpaaGreat.RdW
section
variable (A : Option Addr) (n c : Nat) (xs : List Nat) (w : World)
end
end Go.Proofs.YtdbgaccnejffpaaGreat.BitsWalks

namespace Go.Proofs.YtdbgaccnejffpaaGreat.BitsWalks
open Go.RowKit Go.Proofs.YtdbgaccnejffpaaGreat.Ints Go.Proofs.YtdbgaccnejffpaaGreat.Words Go.Proofs.YtdbgaccnejffpaaGreat.RdW
def GotSetO (w : World) (L : Nat) (f : Nat → Bool) (e : Ending) (w' : World) : Prop :=
 ∃ (v : Value) (n : Nat) (zs : List Nat), e = .returned v ∧ IsSet zs f ∧ n ≤ L ∧ w'.ownsRow w.heap.size 28 1 v n ((ints zs).map (Value.int .u64)) ∧ Below w.heap.size w w'
theorem own_low {w : World} {lo lo' : Nat} {e : TypeId} {k n : Nat} {v : Value} {xs : List Value} (h : w.ownsRow lo e k v n xs) (hl : lo' ≤ lo) : w.ownsRow lo' e k v n xs := by
 refine ⟨h.1, ?_⟩
 rcases h.2 with h2 | ⟨g, cap, cur, e1, h4, h5, h6⟩
 ·exact .inl h2
 ·exact .inr ⟨g, cap, cur, e1, Nat.le_trans hl h4, h5, h6⟩
theorem GotSetO.after {w w1 w2 : World} {L L' : Nat} {f g : Nat → Bool} {e : Ending} (h : GotSetO w1 L f e w2) (hb : Below w.heap.size w w1) (hL : L ≤ L') (hfg : ∀ k, f k = g k) : GotSetO w L' g e w2 := by
 obtain ⟨v, n, zs, h1, h2, h3, h4, h5⟩ := h
 exact ⟨v, n, zs, h1, h2.congr hfg, Nat.le_trans h3 hL, own_low h4 hb.size, hb.trans (h5.mono hb.size)⟩
theorem GotSetO.own {w w1 : World} {L k : Nat} {f : Nat → Bool} {v : Value} {zs : List Nat} (h : w1.ownsRow w.heap.size 28 1 v k ((ints zs).map (Value.int .u64))) (hs : IsSet zs f) (hL : k ≤ L) (hb : Below w.heap.size w w1) : GotSetO w L f (.returned v) w1 :=
 ⟨v, k, zs, rfl, hs, hL, h, hb⟩
section
variable (A B : Option Addr) (n c m d : Nat) (xs ys : List Nat) (w : World)
set_option maxRecDepth 100000 in
set_option maxHeartbeats 400000 in
theorem refTrimO (hn : n ≤ 1048576) (hnc : n ≤ c) (_hc : c ≤ maxLen) (h : RdW w A n xs) :
  Calls Tryz.prog 121 #[.slice A n c] w (GotSetO w n (has xs)) := by
 obtain ⟨i0, hi, hz0, hz1, hz2⟩ := info_parts infoW
 have HC := Lib.hid h.cell
 have HL := Lib.hid h.len
 go_enter Tryz.func121, Tryz.ntmps121
 go_wp2
 go_loop [3] (fun i => ∃ k : Nat, k ≤ n ∧ i = .int .i64 k ∧ ∀ j : Nat, k ≤ j → xs[j]?.getD 0 = 0) (fun i => (intOf i).toNat)
 case atStart => exact ⟨n, Nat.le_refl _, rfl, fun j hj => out_getD (by rw [HL.out]; exact hj)⟩
 case round =>
  obtain ⟨k, hk, rfl, hz⟩ := hrel
  have HZ := Lib.hid hz
  clear hz
  by_cases hgo : 0 < k ∧ wd xs (k - 1) = 0
  ·obtain ⟨q, rfl⟩ : ∃ q, k = q + 1 := ⟨k - 1, by omega⟩
   obtain ⟨b, off, rfl, hc'⟩ := HC.out (by omega)
   have hc1 := hc' q (by omega)
   have hx : wd xs q = 0 := hgo.2
   have hqn : (q : Int) < (n : Int) := by omega
   clear hc' hgo
   go_wp2
   go_round
   case rel =>
    refine ⟨q, by omega, rfl, fun j hj => ?_⟩
    by_cases e : j = q
    ·subst e; exact hx
    ·exact HZ.out j (by omega)
   case measure => simp [intOf]
  ·have HT := Lib.hid (show Used xs k from ⟨by rw [HL.out]; exact hk, HZ.out, fun h0 e => hgo ⟨h0, e⟩⟩)
   have hsub := h.take hk
   have hkc : (k : Int) ≤ (c : Int) := by omega
   have hk0' : (0 : Int) ≤ (k : Int) := by omega
   have q1 : 0 + k ≤ maxLen := by unfold maxLen; omega
   have q2 : (0 + k) * 8 ≤ 140737488355328 := by omega
   have q3 : w.heap.size ≤ (w.alloc (.cells #[] 28)).heap.size := by simp
   clear hgo
   by_cases h0 : 0 < k
   case' pos =>
    obtain ⟨p, hp⟩ : ∃ p, k - 1 = p := ⟨_, rfl⟩
    obtain ⟨b, off, rfl, hc'⟩ := HC.out (by omega)
    have hc1 := hc' p (by omega)
    have hx : ¬ wd xs p = 0 := by rw [← hp]; exact HT.out.2.2 h0
    have hqn : (p : Int) < (n : Int) := by omega
    have ek : (k : Int) - 1 = (p : Int) := by omega
    clear hc' hp
   case' neg =>
    have hk0 : ¬ (0 : Int) < (k : Int) := by omega
   all_goals
    go_wp2_with (at_builtin; refine wpList_append_ints rfl _ _ 117 rfl .u64 w.heap.size 28 i0 8 Tryz.underlying117 hi hz0 hz1 hz2 (.slice (some ⟨w.heap.size, 0, none⟩) 0 0) 0 [] rfl (World.ownsRow_made w #[] 0 (Nat.le_refl _) (by decide) rfl) _ _ _ (ints (xs.take k)) rfl (Rd.alloc hsub _) q1 q2 q3 ?_; intro v' w1 hown hgr; simp only [Nat.zero_add, List.nil_append] at hown)
    go_ret
    exact GotSetO.own hown (HT.out.set h.ws (fun _ => rfl)) hk (((Below.refl _ _).alloc (Nat.le_refl _) _).grown hgr (by simp) (by rintro k hk; simp [Value.ownBlock] at hk; omega))
end
section
variable (A : Option Addr) (n c : Nat) (xs : List Nat) (w : World)
end
section
variable (A : Option Addr) (n c : Nat) (zs : List Int) (w : World)
set_option maxRecDepth 100000 in
set_option maxHeartbeats 1000000 in
theorem refOfO (hn : n ≤ maxLen) (h : Rd .i64 w A n zs) :
  Calls Tryz.prog 101 #[.slice A n c] w (GotSetO w 64 (ofI zs)) := by
 obtain ⟨i0, hi, hz0, hz1, hz2⟩ := info_parts infoW
 have hall : ∀ z ∈ zs, may z → z.toNat / 64 < 64 := fun z hz hm => by unfold may at hm; omega
 unfold maxLen at hn
 have HL := Lib.hid h.len
 have b1 : i0.bytes * 64 ≤ 281474976710656 := by rw [hz2]; omega
 have b2 : 64 ≤ maxLen := by decide
 have HA := Lib.hid hall
 clear hall
 go_enter Tryz.func101, Tryz.ntmps101
 go_wp2_with (at_make; refine wpList_make_full _ rfl _ _ 117 rfl w.heap.size 28 i0 (.int .u64 0) 1 Tryz.underlying117 hi hz0 hz1 .i64 .i64 _ _ 64 rfl rfl (by omega) (by omega) b1 b2 (Nat.le_refl _) ?_; intro w1 hmade hgr1; rw [made_words] at hmade)
 have hmade' : Row w1 w.heap.size w.heap.size 64 64 (puts (List.replicate 64 0) (zs.take 0)) := hmade
 have hB1 : Below w.heap.size w w1 := (Below.refl _ _).grown hgr1 (Nat.le_refl _) (by simp)
 clear hmade hgr1
 go_loopw [9] (fun i wr => ∃ k : Nat, k ≤ n ∧ i = .int .i64 k ∧ Row wr w.heap.size w.heap.size 64 64 (puts (List.replicate 64 0) (zs.take k)) ∧ Below w.heap.size w wr) (fun i _ => n - (intOf i).toNat)
 case atStart => exact ⟨0, Nat.zero_le _, rfl, hmade', hB1⟩
 case round =>
  obtain ⟨k, hk, rfl, hrow, hB⟩ := hrel
  clear hmade' hB1
  have hA := h.below hB
  have hws : Ws (puts (List.replicate 64 0) (zs.take k)) := puts_ws _ (fun j => by rw [List.getElem?_replicate]; split <;> simp)
  by_cases h0 : k < n
  ·have hk0 : (k : Int) < (n : Int) := by omega
   obtain ⟨b, off, e1, hc⟩ := hA.cell (by omega)
   subst e1
   have hc1 := hc k h0
   have HT := Lib.hid (take_snoc zs k (by rw [HL.out]; exact h0))
   have hzm : zs[k]?.getD 0 ∈ zs := by
    have : k < zs.length := by rw [HL.out]; exact h0
    rw [List.getElem?_eq_getElem this]
    exact List.getElem_mem this
   have HM := Lib.hid (HA.out _ hzm)
   obtain ⟨z, hz⟩ : ∃ z, zs[k]?.getD 0 = z := ⟨_, rfl⟩
   rw [hz] at hc1 HM
   obtain ⟨L, hL⟩ : ∃ L, puts (List.replicate 64 0) (zs.take k) = L := ⟨_, rfl⟩
   have hnext : puts (List.replicate 64 0) (zs.take (k + 1)) = put L z := by rw [HT.out, puts_snoc, hL, hz]
   rw [hL] at hrow hws
   have HN := Lib.hid hnext
   have HR := Lib.hid hrow
   have HB := Lib.hid hB
   clear hc hzm hz hnext hB hA hL
   by_cases hm : 0 ≤ z ∧ z ≤ 4095
   ·obtain ⟨x, rfl⟩ := Int.eq_ofNat_of_zero_le hm.1
    have hpl := HM.out hm
    simp only [Int.toNat_natCast] at hpl
    have hp := put_at L x (by omega)
    obtain ⟨p, hpe⟩ : ∃ p, x / 64 = p := ⟨_, rfl⟩
    obtain ⟨t, hte⟩ : ∃ t, x % 64 = t := ⟨_, rfl⟩
    rw [hpe, hte] at hp
    rw [hpe] at hpl
    have e2 : (x : Int) / 64 = (p : Int) := by omega
    have e3 : (x : Int) % 64 = (t : Int) := by omega
    have e4 : (t : Int) ≤ 64 := by omega
    have e6 : IntKind.u64.wrap (t : Int) = (t : Int) := by rw [IntKind.wrap_u64]; omega
    have hx0 : (0 : Int) ≤ (x : Int) := by omega
    have hxb : (x : Int) ≤ 4095 := by omega
    have hpK : (p : Int) < 64 := by omega
    have hc2 := hrow.cell hpl
    have hc3 := hrow.frozenAt p
    have e5 := or_bit (wd L p) t (hws p) (by omega)
    have HP := Lib.hid hp
    clear hm hp hpe hte hrow hws
    go_wp2
    go_roundw
    case rel => exact ⟨k + 1, by omega, by go_num, by rw [HN.out, HP.out]; exact HR.out.set p _, HB.out.setCell (Nat.le_refl _) _⟩
    case measure => simp [intOf]; omega
   ·have HP := Lib.hid (put_out L z hm)
    have hcase : z < 0 ∨ (0 ≤ z ∧ 4095 < z) := by omega
    clear hm hrow hws
    rcases hcase with hc5 | ⟨hc5, hc6⟩
    ·go_wp2
     go_roundw
     case rel => exact ⟨k + 1, by omega, by go_num, by rw [HN.out, HP.out]; exact HR.out, HB.out⟩
     case measure => simp [intOf]; omega
    ·go_wp2
     go_roundw
     case rel => exact ⟨k + 1, by omega, by go_num, by rw [HN.out, HP.out]; exact HR.out, HB.out⟩
     case measure => simp [intOf]; omega
  ·have e : k = n := by omega
   subst e
   rw [List.take_of_length_le (by rw [HL.out]; omega)] at hrow hws
   have hgot := refTrimO _ 64 64 _ wr (by omega) (by omega) (by decide) (hrow.reads hws)
   have HG := Lib.hid hgot
   have HB := Lib.hid hB
   clear hgot hrow hB hA hws
   go_wp2_with fail
   refine HG.out.mono ?_
   intro e w2 hg1
   have hgot := hg1.after HB.out (Nat.le_refl _) (g := ofI zs) (fun i => by rw [puts_has zs (fun z hz hm => by rw [List.length_replicate]; exact HA.out z hz hm), has_zeros, Bool.false_or])
   clear hg1
   obtain ⟨E, n2, us, rfl, hgot⟩ := hgot
   go_wp2
   go_ret
   exact ⟨E, n2, us, rfl, hgot⟩
end
end Go.Proofs.YtdbgaccnejffpaaGreat.BitsWalks

namespace Go.Proofs.YtdbgaccnejffpaaGreat.Trace
open Go.RowKit Go.Proofs.YtdbgaccnejffpaaGreat.Ints Go.Proofs.YtdbgaccnejffpaaGreat.Mem
end Go.Proofs.YtdbgaccnejffpaaGreat.Trace

namespace Go.Proofs.YtdbgaccnejffpaaGreat.Trace
open Go.RowKit Go.Proofs.YtdbgaccnejffpaaGreat.Ints Go.Proofs.YtdbgaccnejffpaaGreat.Mem
end Go.Proofs.YtdbgaccnejffpaaGreat.Trace

namespace Go.Proofs.YtdbgaccnejffpaaGreat.Trace
open Go.RowKit Go.Proofs.YtdbgaccnejffpaaGreat.Ints Go.Proofs.YtdbgaccnejffpaaGreat.Mem
theorem wrap_u64 {z : Int} (h0 : 0 ≤ z) (h1 : z ≤ 65535) : IntKind.u64.wrap z = z := by
 simp only [IntKind.wrap, IntKind.bits, IntKind.signed]; simp; omega
end Go.Proofs.YtdbgaccnejffpaaGreat.Trace

namespace Go.Proofs.YtdbgaccnejffpaaGreat.Trace
open Go.RowKit Go.Proofs.YtdbgaccnejffpaaGreat.Ints Go.Proofs.YtdbgaccnejffpaaGreat.Mem
end Go.Proofs.YtdbgaccnejffpaaGreat.Trace

namespace Go.Proofs.YtdbgaccnejffpaaGreat.Trace
open Go.RowKit Go.Proofs.YtdbgaccnejffpaaGreat.Ints Go.Proofs.YtdbgaccnejffpaaGreat.Mem
theorem row_other {W : World} {base : Nat} {e : TypeId} {size : Nat} {v : Value} {n : Nat} {xs : List Value} {g k : Nat} {u : Value} (h : W.ownsRow base e size v n xs) (hne : v.ownBlock ≠ some g) : (W.setCell ⟨g, k, none⟩ u).ownsRow base e size v n xs :=
 h.kept (row := some g) ⟨rfl, rfl, rfl, by simp, fun i _ hne => Below.heap_setCell W ⟨g, k, none⟩ u i (fun e => hne (by rw [e]))⟩ (.inr hne)
end Go.Proofs.YtdbgaccnejffpaaGreat.Trace
