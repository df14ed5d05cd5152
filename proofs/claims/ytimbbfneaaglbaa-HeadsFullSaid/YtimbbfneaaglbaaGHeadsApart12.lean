/-
  The walks of the landed package record: number, rising. By an AI agent.
  The walks of the landed package record: write. By an AI agent.
  slices.Grow of nil and slices.Concat of two slices of bytes. By an AI agent.
-/
import Derived.Test.YtimbbfneaaglbaaGHeadsApart4
import Derived.Lib.MinMax
import Derived.Test.YtimbbfneaaglbaaGHeadsApart3
import Derived.Test.YtimbbfneaaglbaaGHeadsApart2
import Derived.Lib.AppendZeros
namespace Go.Proofs.Ytimbbfneaaglbaa.Record
open Go.RowKit Go.Proofs.Ytimbbfneaaglbaa.Ints Go.Proofs.Ytimbbfneaaglbaa.Mem Go.Proofs.Ytimbbfneaaglbaa.SumMath Go.Proofs.Ytimbbfneaaglbaa.SumWalks Go.Proofs.Ytimbbfneaaglbaa.Trace

theorem bits_or_u64 (a b : Nat) (ha : a < 18446744073709551616) (hb : b < 18446744073709551616) : bits .or .u64 (a : Int) (b : Int) = ((a ||| b : Nat) : Int) := by
  have hx : a ||| b < 2 ^ 64 := Nat.or_lt_two_pow (by omega) (by omega)
  have h1 : (BitVec.ofInt 64 (a : Int)).toNat = a := by
    rw [BitVec.ofInt_natCast, BitVec.toNat_ofNat]; exact Nat.mod_eq_of_lt (by omega)
  have h2 : (BitVec.ofInt 64 (b : Int)).toNat = b := by
    rw [BitVec.ofInt_natCast, BitVec.toNat_ofNat]; exact Nat.mod_eq_of_lt (by omega)
  show IntKind.u64.wrap ((BitVec.ofInt 64 (a : Int) ||| BitVec.ofInt 64 (b : Int)).toNat : Int) = _
  rw [BitVec.toNat_or, h1, h2]
  simp only [IntKind.wrap, IntKind.bits, IntKind.signed]
  simp
  omega
theorem or_byte (x y : Int) (hx : 0 ≤ x) (hs : x ≤ 72057594037927935) (hy : 0 ≤ y ∧ y ≤ 255) : bits .or .u64 (x * 256) y = x * 256 + y := by
  obtain ⟨a, rfl⟩ := Int.eq_ofNat_of_zero_le hx
  obtain ⟨b, rfl⟩ := Int.eq_ofNat_of_zero_le hy.1
  have e : (a : Int) * 256 = ((2 ^ 8 * a : Nat) : Int) := by rw [Int.natCast_mul, Int.mul_comm]; rfl
  rw [e, bits_or_u64 _ _ (by omega) (by omega), ← Nat.two_pow_add_eq_or_of_lt (by omega) a, Int.natCast_add]

set_option maxHeartbeats 400000 in
theorem landNumber (A : Option Addr) (n c : Nat) (zs : List Int) (w : World) (hn : n ≤ 8) (h : Rd .u8 w A n zs) :
    Calls Try.prog 84 #[.slice A n c] w fun e w' => e = .returned (.int .u64 (numR zs)) ∧ w = w' := by
  have hl := h.len
  have hbd := h.u8
  have hcell := h.cell
  have HB := Lib.hid (all_u8 h.all)
  clear h
  have HL := Lib.hid hl
  clear hl
  go_enter Try.func84, Try.ntmps84
  go_wp2
  go_loop [3, 8] (fun a i => ∃ k : Nat, k ≤ n ∧ i = .int .i64 k ∧ a = .int .u64 (numR (zs.take k))) (fun _ i => n - (intOf i).toNat)
  case atStart => exact ⟨0, Nat.zero_le _, rfl, rfl⟩
  case round =>
    obtain ⟨k, hk, rfl, rfl⟩ := hrel
    have hbk := num_bd k (zs.take k) (by rw [List.length_take]; omega) (fun z hz => HB.out z (List.mem_of_mem_take hz))
    by_cases hlt : k < n
    · obtain ⟨b, off, rfl, hc⟩ := hcell (by omega)
      have hc1 := hc k hlt
      have hb1 := hbd k hlt
      clear hcell hbd hc
      have hpw : 256 ^ k ≤ 256 ^ 7 := Nat.pow_le_pow_right (by decide) (by omega)
      have h7 : (256 : Nat) ^ 7 = 72057594037927936 := by decide
      obtain ⟨X, hX⟩ : ∃ X, numR (zs.take k) = X := ⟨_, rfl⟩
      rw [hX] at hbk ⊢
      have hx0 : 0 ≤ X := hbk.1
      have hx1 : X ≤ 72057594037927935 := by omega
      have HS := Lib.hid (take_snoc zs k (by rw [HL.out]; exact hlt))
      obtain ⟨z, hz⟩ : ∃ z, zs[k]?.getD 0 = z := ⟨_, rfl⟩
      rw [hz] at hc1 hb1
      have HZ := Lib.hid hz
      have HX := Lib.hid hX
      have HO := Lib.hid (or_byte X z hx0 hx1 hb1)
      clear hz hX hbk hpw h7
      go_wp2
      go_round
      case rel => exact ⟨k + 1, by omega, by go_num, by rw [HO.out, HS.out, num_snoc, HX.out, HZ.out]⟩
      case measure => simp [intOf]; omega
    · clear hbk
      go_wp2
      go_ret
      exact ⟨ret_int (by rw [List.take_of_length_le (by rw [HL.out]; omega)]), rfl⟩

set_option maxHeartbeats 4000000 in
set_option maxRecDepth 100000 in
theorem landRising (A : Option Addr) (n c : Nat) (p : Int) (l : List Int) (w : World) (h : Rd .i64 w A n l) (hm : n ≤ maxLen) :
    Calls Try.prog 47 #[.slice A n c, .int .i64 p] w fun e w' => e = .returned (.bool (idsOk l p)) ∧ w' = w := by
  have hni : (n : Int) ≤ 9223372036854775807 := by have : maxLen = 9223372036854775807 := rfl; omega
  have HD := Lib.hid h
  have HL := Lib.hid h.len
  clear h hm
  go_enter Try.func47, Try.ntmps47
  go_wp2
  go_loop [5, 10] (fun v i => ∃ (k : Nat) (y : Int), k ≤ n ∧ i = .int .i64 k ∧ v = .int .i64 y ∧ Hid ((∀ j, j < k → IdGood l p j) ∧ y = if k = 0 then -1 else l.getD (k - 1) 0)) (fun _ i => n - (intOf i).toNat)
  case atStart => exact ⟨0, -1, Nat.zero_le _, rfl, rfl, fun j hj => absurd hj (by omega), rfl⟩
  case round =>
    obtain ⟨k, y, hk, rfl, rfl, HG⟩ := hrel
    by_cases hkn : k < n
    · have hkn' : (k : Int) < (n : Int) := by omega
      obtain ⟨b, off, e, hc⟩ := HD.out.cell (by omega)
      have x0 := hc k hkn
      have hw := wf_i64 (HD.out.wf k hkn)
      have hgk : l.getD k 0 = l[k]?.getD 0 := by simp [List.getD]
      have hlen : k < l.length := by have := HL.out; omega
      obtain ⟨x, hx⟩ : ∃ x, l[k]?.getD 0 = x := ⟨_, rfl⟩
      rw [hx] at x0 hw hgk
      obtain ⟨hw1, hw2⟩ := hw
      subst e
      have hgood : IdGood l p k ↔ y < x ∧ x < p := by
        have hy := HG.out.2
        by_cases h0 : k = 0
        · rw [if_pos h0] at hy
          unfold IdGood
          rw [hgk]
          constructor
          · rintro ⟨h1, h2, -⟩; omega
          · rintro ⟨h1, h2⟩; exact ⟨by omega, h2, fun h => absurd h (by omega)⟩
        · rw [if_neg h0] at hy
          have h1 := (HG.out.1 (k - 1) (by omega)).1
          unfold IdGood
          rw [hgk, ← hy]
          rw [← hy] at h1
          constructor
          · rintro ⟨-, h2, h3⟩; exact ⟨h3 (by omega), h2⟩
          · rintro ⟨h2, h3⟩; exact ⟨by omega, h3, fun _ => h2⟩
      by_cases h1 : x ≤ y
      · have h1' : decide (x ≤ y) = true := decide_eq_true h1
        have HR := Lib.hid (ids_no (p := p) hlen (fun e => by have := (hgood.1 e).1; omega))
        clear hgk hlen hx hc hgood
        go_wp2
        go_ret
        exact ⟨by rw [HR.out]; rfl, rfl⟩
      · have h1' : decide (x ≤ y) = false := decide_eq_false h1
        by_cases h2 : p ≤ x
        · have h2' : decide (x ≥ p) = true := decide_eq_true h2
          have HR := Lib.hid (ids_no (p := p) hlen (fun e => by have := (hgood.1 e).2; omega))
          clear hgk hlen hx hc hgood
          go_wp2
          go_ret
          exact ⟨by rw [HR.out]; rfl, rfl⟩
        · have h2' : decide (x ≥ p) = false := decide_eq_false h2
          have HZ := Lib.hid (good_more HG.out.1 (p := IdGood l p) (k := k) (hgood.2 ⟨by omega, by omega⟩))
          have HK := Lib.hid hgk
          clear hgk hlen hx hc hgood
          go_wp2
          go_round
          case rel => exact ⟨k + 1, x, by omega, by go_num, rfl, HZ.out, by rw [if_neg (by omega), show k + 1 - 1 = k by omega, HK.out]⟩
          case measure => simp [intOf]; omega
    · have hge : decide ((k : Int) < (n : Int)) = false := by simp; omega
      have HR := Lib.hid (ids_yes (l := l) (p := p) (fun j hj => HG.out.1 j (by have := HL.out; omega)))
      go_wp2
      go_ret
      exact ⟨by rw [HR.out]; rfl, rfl⟩
end Go.Proofs.Ytimbbfneaaglbaa.Record

namespace Go.Proofs.Ytimbbfneaaglbaa.Record
open Go.RowKit Go.Proofs.Ytimbbfneaaglbaa.Ints Go.Proofs.Ytimbbfneaaglbaa.Mem Go.Proofs.Ytimbbfneaaglbaa.SumMath Go.Proofs.Ytimbbfneaaglbaa.SumWalks Go.Proofs.Ytimbbfneaaglbaa.Trace

theorem one_byte {z : Int} (h : 0 ≤ z ∧ z ≤ 255) : ∀ y ∈ [z], (Lit.int .u8 y).wf = true := fun y hy => by rw [List.mem_singleton.1 hy]; exact u8_wf h
theorem row_more {w : World} {base : Nat} {e : TypeId} {v : Value} {n m : Nat} {xs ys : List Int} {k : IntKind} (hm : n = m) (h : xs = ys) (ho : w.ownsRow base e 1 v n (xs.map (Value.int k))) : w.ownsRow base e 1 v m (ys.map (Value.int k)) := by
  subst hm; subst h; exact ho

set_option maxHeartbeats 4000000 in
set_option maxRecDepth 100000 in
theorem landWrite2 (v : Value) (n : Nat) (zs : List Int) (x : Int) (base : Nat) (w : World) (hx0 : 0 ≤ x) (hx1 : x ≤ 65535) (hown : w.ownsRow base 5 1 v n (zs.map (Value.int .u8))) (hb : base ≤ w.heap.size) (hn : n ≤ 1000) :
    Calls Try.prog 63 #[v, .int .u64 x, .int .i64 2] w fun e w' => ∃ v', e = .returned v' ∧ w'.ownsRow base 5 1 v' (n + 2) ((zs ++ be2 x).map (Value.int .u8)) ∧ Below base w w' := by
  obtain ⟨i0, hi, hz0, hz1, hz2⟩ := info_parts info5'
  go_enter Try.func63, Try.ntmps63
  go_wp2
  go_loopw [0, 7] (fun v i wr => ∃ k : Nat, k ≤ 2 ∧ i = .int .i64 (1 - (k : Int)) ∧ wr.ownsRow base 5 1 v (n + k) ((zs ++ (be2 x).take k).map (Value.int .u8)) ∧ Below base w wr) (fun _ i _ => (intOf i + 1).toNat)
  case atStart => exact ⟨0, Nat.zero_le _, rfl, by simpa using hown, Below.refl _ _⟩
  case round =>
    obtain ⟨k, hk, rfl, hrow, hB⟩ := hrel
    have hBs : base ≤ wr.heap.size := Nat.le_trans hb hB.size
    obtain rfl | rfl | rfl : k = 0 ∨ k = 1 ∨ k = 2 := by omega
    · go_wp2_with (at_builtin; refine wpList_append_ints rfl (.tmp 14) (.tmp 20) 36 rfl .u8 base 5 i0 1 Try.underlying36 hi hz0 hz1 hz2 _ _ _ rfl (hrow.alloc _) _ 1 1 [x / 256] rfl (Rd.lit wr 5 (0, 0) [x / 256] (one_byte (by omega))) (by have : maxLen = 9223372036854775807 := rfl; omega) (by omega) (le_alloc hBs) ?_; intro v2 w2 hown2 hgr2)
      go_roundw
      case rel => exact ⟨1, by omega, by go_num, row_more rfl (by simp [be2] <;> omega) hown2, (hB.alloc hBs _).grown hgr2 (le_alloc hBs) (fun z hz => (hrow.lt z hz).1)⟩
      case measure => simp [intOf]
    · go_wp2_with (at_builtin; refine wpList_append_ints rfl (.tmp 14) (.tmp 20) 36 rfl .u8 base 5 i0 1 Try.underlying36 hi hz0 hz1 hz2 _ _ _ rfl (hrow.alloc _) _ 1 1 [x % 256] rfl (Rd.lit wr 5 (0, 0) [x % 256] (one_byte (by omega))) (by have : maxLen = 9223372036854775807 := rfl; omega) (by omega) (le_alloc hBs) ?_; intro v2 w2 hown2 hgr2)
      go_roundw
      case rel => exact ⟨2, by omega, by go_num, row_more rfl (by simp [be2] <;> omega) hown2, (hB.alloc hBs _).grown hgr2 (le_alloc hBs) (fun z hz => (hrow.lt z hz).1)⟩
      case measure => simp [intOf]
    · go_wp2
      go_ret
      exact ⟨_, rfl, hrow, hB⟩

set_option maxHeartbeats 4000000 in
set_option maxRecDepth 100000 in
theorem landWrite8 (v : Value) (n : Nat) (zs : List Int) (x : Int) (base : Nat) (w : World) (hx0 : 0 ≤ x) (hx1 : x ≤ 18446744073709551615) (hown : w.ownsRow base 5 1 v n (zs.map (Value.int .u8))) (hb : base ≤ w.heap.size) (hn : n ≤ 1000) :
    Calls Try.prog 63 #[v, .int .u64 x, .int .i64 8] w fun e w' => ∃ v', e = .returned v' ∧ w'.ownsRow base 5 1 v' (n + 8) ((zs ++ be8 x).map (Value.int .u8)) ∧ Below base w w' := by
  obtain ⟨i0, hi, hz0, hz1, hz2⟩ := info_parts info5'
  go_enter Try.func63, Try.ntmps63
  go_wp2
  go_loopw [0, 7] (fun v i wr => ∃ k : Nat, k ≤ 8 ∧ i = .int .i64 (7 - (k : Int)) ∧ wr.ownsRow base 5 1 v (n + k) ((zs ++ (be8 x).take k).map (Value.int .u8)) ∧ Below base w wr) (fun _ i _ => (intOf i + 1).toNat)
  case atStart => exact ⟨0, Nat.zero_le _, rfl, by simpa using hown, Below.refl _ _⟩
  case round =>
    obtain ⟨k, hk, rfl, hrow, hB⟩ := hrel
    have hBs : base ≤ wr.heap.size := Nat.le_trans hb hB.size
    obtain rfl | rfl | rfl | rfl | rfl | rfl | rfl | rfl | rfl : k = 0 ∨ k = 1 ∨ k = 2 ∨ k = 3 ∨ k = 4 ∨ k = 5 ∨ k = 6 ∨ k = 7 ∨ k = 8 := by omega
    · go_wp2_with (at_builtin; refine wpList_append_ints rfl (.tmp 14) (.tmp 20) 36 rfl .u8 base 5 i0 1 Try.underlying36 hi hz0 hz1 hz2 _ _ _ rfl (hrow.alloc _) _ 1 1 [x / 72057594037927936] rfl (Rd.lit wr 5 (0, 0) [x / 72057594037927936] (one_byte (by omega))) (by have : maxLen = 9223372036854775807 := rfl; omega) (by omega) (le_alloc hBs) ?_; intro v2 w2 hown2 hgr2)
      go_roundw
      case rel => exact ⟨1, by omega, by go_num, row_more rfl (by simp [be8] <;> omega) hown2, (hB.alloc hBs _).grown hgr2 (le_alloc hBs) (fun z hz => (hrow.lt z hz).1)⟩
      case measure => simp [intOf]
    · go_wp2_with (at_builtin; refine wpList_append_ints rfl (.tmp 14) (.tmp 20) 36 rfl .u8 base 5 i0 1 Try.underlying36 hi hz0 hz1 hz2 _ _ _ rfl (hrow.alloc _) _ 1 1 [x / 281474976710656 % 256] rfl (Rd.lit wr 5 (0, 0) [x / 281474976710656 % 256] (one_byte (by omega))) (by have : maxLen = 9223372036854775807 := rfl; omega) (by omega) (le_alloc hBs) ?_; intro v2 w2 hown2 hgr2)
      go_roundw
      case rel => exact ⟨2, by omega, by go_num, row_more rfl (by simp [be8] <;> omega) hown2, (hB.alloc hBs _).grown hgr2 (le_alloc hBs) (fun z hz => (hrow.lt z hz).1)⟩
      case measure => simp [intOf]
    · go_wp2_with (at_builtin; refine wpList_append_ints rfl (.tmp 14) (.tmp 20) 36 rfl .u8 base 5 i0 1 Try.underlying36 hi hz0 hz1 hz2 _ _ _ rfl (hrow.alloc _) _ 1 1 [x / 1099511627776 % 256] rfl (Rd.lit wr 5 (0, 0) [x / 1099511627776 % 256] (one_byte (by omega))) (by have : maxLen = 9223372036854775807 := rfl; omega) (by omega) (le_alloc hBs) ?_; intro v2 w2 hown2 hgr2)
      go_roundw
      case rel => exact ⟨3, by omega, by go_num, row_more rfl (by simp [be8] <;> omega) hown2, (hB.alloc hBs _).grown hgr2 (le_alloc hBs) (fun z hz => (hrow.lt z hz).1)⟩
      case measure => simp [intOf]
    · go_wp2_with (at_builtin; refine wpList_append_ints rfl (.tmp 14) (.tmp 20) 36 rfl .u8 base 5 i0 1 Try.underlying36 hi hz0 hz1 hz2 _ _ _ rfl (hrow.alloc _) _ 1 1 [x / 4294967296 % 256] rfl (Rd.lit wr 5 (0, 0) [x / 4294967296 % 256] (one_byte (by omega))) (by have : maxLen = 9223372036854775807 := rfl; omega) (by omega) (le_alloc hBs) ?_; intro v2 w2 hown2 hgr2)
      go_roundw
      case rel => exact ⟨4, by omega, by go_num, row_more rfl (by simp [be8] <;> omega) hown2, (hB.alloc hBs _).grown hgr2 (le_alloc hBs) (fun z hz => (hrow.lt z hz).1)⟩
      case measure => simp [intOf]
    · go_wp2_with (at_builtin; refine wpList_append_ints rfl (.tmp 14) (.tmp 20) 36 rfl .u8 base 5 i0 1 Try.underlying36 hi hz0 hz1 hz2 _ _ _ rfl (hrow.alloc _) _ 1 1 [x / 16777216 % 256] rfl (Rd.lit wr 5 (0, 0) [x / 16777216 % 256] (one_byte (by omega))) (by have : maxLen = 9223372036854775807 := rfl; omega) (by omega) (le_alloc hBs) ?_; intro v2 w2 hown2 hgr2)
      go_roundw
      case rel => exact ⟨5, by omega, by go_num, row_more rfl (by simp [be8] <;> omega) hown2, (hB.alloc hBs _).grown hgr2 (le_alloc hBs) (fun z hz => (hrow.lt z hz).1)⟩
      case measure => simp [intOf]
    · go_wp2_with (at_builtin; refine wpList_append_ints rfl (.tmp 14) (.tmp 20) 36 rfl .u8 base 5 i0 1 Try.underlying36 hi hz0 hz1 hz2 _ _ _ rfl (hrow.alloc _) _ 1 1 [x / 65536 % 256] rfl (Rd.lit wr 5 (0, 0) [x / 65536 % 256] (one_byte (by omega))) (by have : maxLen = 9223372036854775807 := rfl; omega) (by omega) (le_alloc hBs) ?_; intro v2 w2 hown2 hgr2)
      go_roundw
      case rel => exact ⟨6, by omega, by go_num, row_more rfl (by simp [be8] <;> omega) hown2, (hB.alloc hBs _).grown hgr2 (le_alloc hBs) (fun z hz => (hrow.lt z hz).1)⟩
      case measure => simp [intOf]
    · go_wp2_with (at_builtin; refine wpList_append_ints rfl (.tmp 14) (.tmp 20) 36 rfl .u8 base 5 i0 1 Try.underlying36 hi hz0 hz1 hz2 _ _ _ rfl (hrow.alloc _) _ 1 1 [x / 256 % 256] rfl (Rd.lit wr 5 (0, 0) [x / 256 % 256] (one_byte (by omega))) (by have : maxLen = 9223372036854775807 := rfl; omega) (by omega) (le_alloc hBs) ?_; intro v2 w2 hown2 hgr2)
      go_roundw
      case rel => exact ⟨7, by omega, by go_num, row_more rfl (by simp [be8] <;> omega) hown2, (hB.alloc hBs _).grown hgr2 (le_alloc hBs) (fun z hz => (hrow.lt z hz).1)⟩
      case measure => simp [intOf]
    · go_wp2_with (at_builtin; refine wpList_append_ints rfl (.tmp 14) (.tmp 20) 36 rfl .u8 base 5 i0 1 Try.underlying36 hi hz0 hz1 hz2 _ _ _ rfl (hrow.alloc _) _ 1 1 [x % 256] rfl (Rd.lit wr 5 (0, 0) [x % 256] (one_byte (by omega))) (by have : maxLen = 9223372036854775807 := rfl; omega) (by omega) (le_alloc hBs) ?_; intro v2 w2 hown2 hgr2)
      go_roundw
      case rel => exact ⟨8, by omega, by go_num, row_more rfl (by simp [be8] <;> omega) hown2, (hB.alloc hBs _).grown hgr2 (le_alloc hBs) (fun z hz => (hrow.lt z hz).1)⟩
      case measure => simp [intOf]
    · go_wp2
      go_ret
      exact ⟨_, rfl, hrow, hB⟩
end Go.Proofs.Ytimbbfneaaglbaa.Record

namespace Go.Proofs.Ytimbbfneaaglbaa.Record
open Go.RowKit Go.Proofs.Ytimbbfneaaglbaa.Ints Go.Proofs.Ytimbbfneaaglbaa.Mem Go.Proofs.Ytimbbfneaaglbaa.SumMath Go.Proofs.Ytimbbfneaaglbaa.SumWalks

theorem zero_size (z : Array Value) (n : Nat) : (Builtin.zeroCells z n).size = n * z.size := by simp [Builtin.zeroCells]

set_option maxHeartbeats 4000000 in
set_option maxRecDepth 100000 in
theorem growNil (n : Nat) (w : World) (h0 : 0 < n) (hn : n ≤ 140737488355328) :
    Calls Try.prog 62 #[.slice none 0 0, .int .i64 n] w fun e w' => ∃ v', e = .returned v' ∧ w'.ownsRow w.heap.size 5 1 v' 0 [] ∧ Below w.heap.size w w' := by
  obtain ⟨i0, hi, hz0, hz1, hz2⟩ := info_parts info5'
  have hrz : ∀ ty, (Builtin.append_ #[36, 3] ty #[.slice none 0 0, .int .i64 (n : Int)]).run Try.prog w =
      .ok (.slice (some ⟨w.heap.size, 0, none⟩) n (grownCap w n 0 5)) (w.drew.alloc (.cells (Builtin.zeroCells (Value.int .u8 0).cells n ++ Builtin.zeroCells (Value.int .u8 0).cells (grownCap w n 0 5 - n)) 5)) := fun ty =>
    Lib.run_append_nil_zeros w 36 3 ty 5 i0 (.int .u8 0) .i64 .i64 Try.underlying36 Try.underlying3 hi hz0 n h0 (by rw [hz1]; decide) (by omega) (by rw [hz2]; omega)
  have hG := grownCap_ge w n 0 5
  have hGm := grownCap_le_maxLen w n 0 5 (by unfold maxLen; omega)
  obtain ⟨G, eG⟩ : ∃ G, grownCap w n 0 5 = G := ⟨_, rfl⟩
  rw [eG] at hrz hG hGm
  have hsz : (Builtin.zeroCells (Value.int .u8 0).cells n ++ Builtin.zeroCells (Value.int .u8 0).cells (G - n)).size = G * 1 := by
    rw [Array.size_append, zero_size, zero_size]
    show n * 1 + (G - n) * 1 = G * 1
    omega
  obtain ⟨cs, hcs⟩ : ∃ cs, Builtin.zeroCells (Value.int .u8 0).cells n ++ Builtin.zeroCells (Value.int .u8 0).cells (G - n) = cs := ⟨_, rfl⟩
  rw [hcs] at hrz hsz
  clear hcs eG
  have g1 : ¬ ((n : Int) < 0) := by omega
  have g2 : (n : Int) > 0 := by omega
  have hGi : (G : Int) ≤ 9223372036854775807 := by have : maxLen = 9223372036854775807 := rfl; omega
  go_enter Try.func62, Try.ntmps62
  go_wp2_with (at_builtin; refine Lib.wpList_append_run _ rfl _ _ _ _ rfl _ _ rfl rfl _ _ (hrz _) ?_)
  go_ret
  exact ⟨_, rfl, World.ownsRow_made w.drew cs G (Nat.le_refl _) hGm hsz, ((Below.refl _ _).drew).alloc (Nat.le_refl _) _⟩

set_option maxHeartbeats 4000000 in
set_option maxRecDepth 100000 in
theorem concat2 (g : Nat) (A1 A2 : Option Addr) (n1 c1 n2 c2 : Nat) (zs1 zs2 : List Int) (w : World) (k0 : w.cell? ⟨g, 0, none⟩ = some (.slice A1 n1 c1)) (k1 : w.cell? ⟨g, 1, none⟩ = some (.slice A2 n2 c2))
    (h1 : Rd .u8 w A1 n1 zs1) (h2 : Rd .u8 w A2 n2 zs2) (h0 : 0 < n1 + n2) (hn : n1 + n2 ≤ 140737488355328) :
    Calls Try.prog 48 #[.slice (some ⟨g, 0, none⟩) 2 2] w (Made w (n1 + n2) (zs1 ++ zs2)) := by
  obtain ⟨i0, hi, hz0, hz1, hz2⟩ := info_parts info5'
  have HG := Lib.hid (growNil (n1 + n2) w h0 hn)
  have q63 : maxLen = 9223372036854775807 := rfl
  have s1 : (n1 : Int) ≤ 140737488355328 := by omega
  have s2 : (n1 : Int) + (n2 : Int) ≤ 140737488355328 := by omega
  have s3 : ¬ ((n1 : Int) < 0) := by omega
  have s4 : ¬ ((n1 : Int) + (n2 : Int) < 0) := by omega
  have hgl : g < w.heap.size := World.block_lt_of_cell? w _ k0
  go_enter Try.func48, Try.ntmps48
  go_wp2
  go_loop [3, 11] (fun s i => (i = .int .i64 0 ∧ s = .int .i64 0) ∨ (i = .int .i64 1 ∧ s = .int .i64 (n1 : Int)) ∨ (i = .int .i64 2 ∧ s = .int .i64 ((n1 : Int) + (n2 : Int)))) (fun _ i => 2 - (intOf i).toNat)
  case atStart => exact Or.inl ⟨rfl, rfl⟩
  case round =>
    rcases hrel with ⟨rfl, rfl⟩ | ⟨rfl, rfl⟩ | ⟨rfl, rfl⟩
    · go_wp2
      go_round
      case rel => exact Or.inr (Or.inl ⟨rfl, rfl⟩)
      case measure => simp [intOf]
    · go_wp2
      go_round
      case rel => exact Or.inr (Or.inr ⟨rfl, rfl⟩)
      case measure => simp [intOf]
    · go_wp2_with fail
      refine HG.out.mono ?_
      rintro e w1 ⟨v', rfl, hown, hB⟩
      have hsz := hB.size
      have m0 := (hB.cell (p := ⟨g, 0, none⟩) hgl).trans k0
      have m1 := (hB.cell (p := ⟨g, 1, none⟩) hgl).trans k1
      go_wp2_with fail
      go_loopw [6, 27] (fun v i wr => Below w.heap.size w wr ∧ ((i = .int .i64 0 ∧ wr.ownsRow w.heap.size 5 1 v 0 (([] : List Int).map (Value.int .u8))) ∨ (i = .int .i64 1 ∧ wr.ownsRow w.heap.size 5 1 v n1 (zs1.map (Value.int .u8))) ∨ (i = .int .i64 2 ∧ wr.ownsRow w.heap.size 5 1 v (n1 + n2) ((zs1 ++ zs2).map (Value.int .u8))))) (fun _ i _ => 2 - (intOf i).toNat)
      case atStart => exact ⟨hB, Or.inl ⟨rfl, hown⟩⟩
      case round =>
        obtain ⟨hBr, hrel⟩ := hrel
        have hszr := hBr.size
        have r0 := (hBr.cell (p := ⟨g, 0, none⟩) hgl).trans k0
        have r1 := (hBr.cell (p := ⟨g, 1, none⟩) hgl).trans k1
        clear m0 m1 hown hB
        rcases hrel with ⟨rfl, hrow⟩ | ⟨rfl, hrow⟩ | ⟨rfl, hrow⟩
        · go_wp2_with (at_builtin; refine wpList_append_ints rfl _ _ 36 rfl .u8 w.heap.size 5 i0 1 Try.underlying36 hi hz0 hz1 hz2 _ _ _ rfl hrow _ _ _ zs1 rfl (h1.below hBr) (by omega) (by omega) hszr ?_; intro v2 w2 hown2 hgr2)
          go_roundw
          case rel => exact ⟨hBr.grown hgr2 hszr (fun z hz => (hrow.lt z hz).1), Or.inr (Or.inl ⟨rfl, by simpa using hown2⟩)⟩
          case measure => simp [intOf]
        · go_wp2_with (at_builtin; refine wpList_append_ints rfl _ _ 36 rfl .u8 w.heap.size 5 i0 1 Try.underlying36 hi hz0 hz1 hz2 _ _ _ rfl hrow _ _ _ zs2 rfl (h2.below hBr) (by omega) (by omega) hszr ?_; intro v2 w2 hown2 hgr2)
          go_roundw
          case rel => exact ⟨hBr.grown hgr2 hszr (fun z hz => (hrow.lt z hz).1), Or.inr (Or.inr ⟨rfl, hown2⟩)⟩
          case measure => simp [intOf]
        · go_wp2
          go_ret
          exact ⟨_, rfl, hrow, hBr⟩
end Go.Proofs.Ytimbbfneaaglbaa.Record
