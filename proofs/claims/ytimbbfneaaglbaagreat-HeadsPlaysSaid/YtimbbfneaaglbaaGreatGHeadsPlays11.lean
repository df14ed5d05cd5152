/-
  The walks of the reference's Clone, Seek and Close (stage 13). By an AI agent.
  The walks of the landed package record: number, rising. By an AI agent.
  The walks of the landed package record: write. By an AI agent.
  slices.Grow of nil and slices.Concat of two slices of bytes. By an AI agent.
-/
import Derived.Test.YtimbbfneaaglbaaGreatGHeadsPlays10
import Derived.Test.YtimbbfneaaglbaaGreatGHeadsPlays3
import Derived.Lib.MinMax
import Derived.Test.YtimbbfneaaglbaaGreatGHeadsPlays2
import Derived.Test.YtimbbfneaaglbaaGreatGHeadsPlays1
import Derived.Lib.AppendZeros
namespace Go.Proofs.YtimbbfneaaglbaaGreat.Heads
open Go.RowKit Go.Proofs.YtimbbfneaaglbaaGreat.Ints Go.Proofs.YtimbbfneaaglbaaGreat.Mem Go.Proofs.YtimbbfneaaglbaaGreat.Trace Go.Proofs.YtimbbfneaaglbaaGreat.Record Go.Proofs.YtimbbfneaaglbaaGreat.Log Go.Proofs.YtimbbfneaaglbaaGreat.Src

/-- An open head in memory. -/
structure HeadAt (w : World) (g : Nat) (D : Nat → Prop) (s : PS) (k i g1 c1 g2 c2 : Nat) (ats : List Int) : Prop where
  lt : i < s.hs.length
  at_ : s.hs[i]? = some (some k)
  c1le : s.hs.length ≤ c1 ∧ c1 ≤ maxLen
  c2le : s.hs.length ≤ c2 ∧ c2 ≤ maxLen
  rq : RQ w g D s (.slice (some ⟨g1, 0, none⟩) s.hs.length c1) (s.hs.map Option.isSome) (.slice (some ⟨g2, 0, none⟩) s.hs.length c2) ats
  len : ats.length = s.hs.length
  all : ∀ (j m : Nat), s.hs[j]? = some (some m) → ats[j]? = some (m : Int)
  x4 : w.cell? ⟨g, 4, none⟩ = some (.slice (some ⟨g1, 0, none⟩) s.hs.length c1)
  x5 : w.cell? ⟨g, 5, none⟩ = some (.slice (some ⟨g2, 0, none⟩) s.hs.length c2)
  y1 : w.cell? ⟨g1, i, none⟩ = some (.bool true)
  y2 : w.cell? ⟨g2, i, none⟩ = some (.int .i64 (k : Int))
  z1 : w.frozen? ⟨g1, i, none⟩ = false
  z2 : w.frozen? ⟨g2, i, none⟩ = false
theorem RP.head {w : World} {g : Nat} {D : Nat → Prop} {s : PS} (h : RP w g D s) {id : Int} {k : Nat} (hk : headP s.hs id = some k) : ∃ i g1 c1 g2 c2 ats, id = ((i : Nat) : Int) ∧ HeadAt w g D s k i g1 c1 g2 c2 ats := by
  obtain ⟨h0, hlt, hat⟩ := head_some hk
  obtain ⟨v1, v2, ats, hq, hl, hall⟩ := h.split
  have hm : (s.hs.map Option.isSome).length = s.hs.length := List.length_map _
  have r1 := hq.r1
  have r2 := hq.r2
  rw [hm] at r1
  rw [hl] at r2
  obtain ⟨g1, c1, rfl, -, -, p1, p2⟩ := own_form r1 (by omega)
  obtain ⟨g2, c2, rfl, -, -, p3, p4⟩ := own_form r2 (by omega)
  obtain ⟨_, _, _, _, _, _, hb, -⟩ := hq.ex
  exact ⟨id.toNat, g1, c1, g2, c2, ats, by omega, hlt, hat, ⟨p1, p2⟩, ⟨p3, p4⟩, hq, hl, hall, hb.cell 4 rfl, hb.cell 5 rfl, bool_at r1 (by rw [List.getElem?_map, hat]; rfl), int_cell r2 (hall _ _ hat), r1.frozenAt _, r2.frozenAt _⟩
theorem HeadAt.close {w : World} {g k i g1 c1 g2 c2 : Nat} {D : Nat → Prop} {s : PS} {ats : List Int} (h : HeadAt w g D s k i g1 c1 g2 c2 ats) : Turn w (w.setCell ⟨g1, i, none⟩ (.bool false)) g D { s with hs := s.hs.set i none } := by
  refine (h.rq.set1 i false).join (by rw [List.map_set]; rfl) (by rw [List.length_set]; exact h.len) (fun j m hjm => ?_)
  rw [List.getElem?_set] at hjm
  split at hjm
  · split at hjm
    · cases hjm
    · cases hjm
  · exact h.all j m hjm
theorem HeadAt.move {w : World} {g k i g1 c1 g2 c2 : Nat} {D : Nat → Prop} {s : PS} {ats : List Int} (h : HeadAt w g D s k i g1 c1 g2 c2 ats) (q : Nat) : Turn w (w.setCell ⟨g2, i, none⟩ (.int .i64 (q : Int))) g D { s with hs := s.hs.set i (some q) } := by
  have hlt := h.lt
  refine (h.rq.set2 i (q : Int)).join (by
    rw [List.map_set]
    show s.hs.map Option.isSome = (s.hs.map Option.isSome).set i true
    have e : (s.hs.map Option.isSome)[i]? = some true := by rw [List.getElem?_map, h.at_]; rfl
    obtain ⟨h1, h2⟩ := List.getElem?_eq_some_iff.1 e
    rw [← h2, List.set_getElem_self]) (by rw [List.length_set, List.length_set]; exact h.len) (fun j m hjm => ?_)
  rw [List.getElem?_set] at hjm ⊢
  split at hjm
  · rename_i e
    subst e
    injection hjm with hjm
    injection hjm with hjm
    subst hjm
    rw [if_pos rfl, if_pos (by rw [h.len]; exact hlt)]
  · rename_i e
    rw [if_neg e]
    exact h.all j m hjm

set_option maxHeartbeats 4000000 in
set_option maxRecDepth 100000 in
theorem refClose (w : World) (g : Nat) (D : Nat → Prop) (s : PS) (h : RP w g D s) (id : Int) (hid : small64 id) :
    Calls Tryz.prog 53 #[.pointer (some ⟨g, 0, none⟩), .int .i64 id] w fun e w' => e = .returned (.bool (closeP s id).1) ∧ Turn w w' g D (closeP s id).2 := by
  have q63 : maxLen = 9223372036854775807 := rfl
  have HH := Lib.hid (refHas w g D s h id hid)
  obtain ⟨o, ho⟩ : ∃ o, headP s.hs id = o := ⟨_, rfl⟩
  rw [ho] at HH
  cases o with
  | none =>
    have HE := Lib.hid (show closeP s id = (false, s) by unfold closeP; rw [ho])
    have HP := Lib.hid h
    clear h ho hid
    go_enter Tryz.func53, Tryz.ntmps53
    go_wp2_with fail
    refine HH.out.mono ?_
    rintro e w' ⟨rfl, rfl⟩
    go_wp2
    go_ret
    rw [HE.out]
    exact ⟨rfl, Turn.refl HP.out⟩
  | some k =>
    obtain ⟨i, g1, c1, g2, c2, ats, rfl, ha⟩ := h.head ho
    have HE := Lib.hid (show closeP s (i : Int) = (true, { s with hs := s.hs.set i none }) by unfold closeP; rw [ho]; rfl)
    have x4 := ha.x4
    have y1 := ha.y1
    have z1 := ha.z1
    have hlt : (i : Int) < (s.hs.length : Int) := by have := ha.lt; omega
    have hle := ha.c1le
    have HA := Lib.hid ha
    clear h ho ha hid
    go_enter Tryz.func53, Tryz.ntmps53
    go_wp2_with fail
    refine HH.out.mono ?_
    rintro e w' ⟨rfl, rfl⟩
    go_wp2
    go_ret
    rw [HE.out]
    exact ⟨rfl, HA.out.close⟩

set_option maxHeartbeats 4000000 in
set_option maxRecDepth 100000 in
theorem refClone (w : World) (g : Nat) (D : Nat → Prop) (s : PS) (h : RP w g D s) (hok : OkP s) (hl : s.hs.length ≤ 100000) (hpk : s.peak ≤ 4611686018427387904) (id : Int) (hid : small64 id) :
    Calls Tryz.prog 47 #[.pointer (some ⟨g, 0, none⟩), .int .i64 id] w fun e w' => e = .returned (.tuple #[.int .i64 ((cloneP s id).1 : Nat), .int .i64 ((cloneP s id).2.1 : Nat)]) ∧ Turn w w' g D (cloneP s id).2.2 := by
  have q63 : maxLen = 9223372036854775807 := rfl
  have HH := Lib.hid (refHas w g D s h id hid)
  obtain ⟨o, ho⟩ : ∃ o, headP s.hs id = o := ⟨_, rfl⟩
  rw [ho] at HH
  cases o with
  | none =>
    have HE := Lib.hid (show cloneP s id = (0, 11, s) by unfold cloneP; rw [ho])
    have HP := Lib.hid h
    clear h ho hid
    go_enter Tryz.func47, Tryz.ntmps47
    go_wp2_with fail
    refine HH.out.mono ?_
    rintro e w' ⟨rfl, rfl⟩
    go_wp2
    refine bodyPost_ret (v := .tuple #[.int .i64 0, .int .i64 11]) (by simp [results, Tryz.results47, go_sem]) rfl ?_
    rw [HE.out]
    exact ⟨rfl, Turn.refl HP.out⟩
  | some k =>
    obtain ⟨i, g1, c1, g2, c2, ats, rfl, ha⟩ := h.head ho
    have HE := Lib.hid (show cloneP s (i : Int) = addP s k by unfold cloneP; rw [ho])
    have HN := Lib.hid (refNew w g D s h hok hl hpk k (hok.at_ _ _ ha.at_))
    have x5 := ha.x5
    have y2 := ha.y2
    have hlt : (i : Int) < (s.hs.length : Int) := by have := ha.lt; omega
    have hle := ha.c2le
    clear h ho ha hid hok
    go_enter Tryz.func47, Tryz.ntmps47
    go_wp2_with fail
    refine HH.out.mono ?_
    rintro e w' ⟨rfl, rfl⟩
    go_wp2_with fail
    refine HN.out.mono ?_
    rintro e w2 ⟨rfl, ht⟩
    have HT := Lib.hid ht
    clear ht
    go_wp2
    refine bodyPost_ret (v := .tuple #[.int .i64 ((addP s k).1 : Nat), .int .i64 ((addP s k).2.1 : Nat)]) (by simp [results, Tryz.results47, go_sem]) rfl ?_
    rw [HE.out]
    exact ⟨rfl, HT.out⟩

set_option maxHeartbeats 4000000 in
set_option maxRecDepth 100000 in
theorem refSeek (w : World) (g : Nat) (D : Nat → Prop) (s : PS) (h : RP w g D s) (hok : OkP s) (hl : s.hs.length ≤ 100000) (hpk : s.peak ≤ 4611686018427387904) (id k : Int) (hid : small64 id) (hk : small64 k) :
    Calls Tryz.prog 52 #[.pointer (some ⟨g, 0, none⟩), .int .i64 id, .int .i64 k] w fun e w' => e = .returned (.int .i64 ((seekP s id k).1 : Nat)) ∧ Turn w w' g D (seekP s id k).2 := by
  have q63 : maxLen = 9223372036854775807 := rfl
  obtain ⟨hk1, hk2⟩ := hk
  have HH := Lib.hid (refHas w g D s h id hid)
  have HP := Lib.hid h
  obtain ⟨o, ho⟩ : ∃ o, headP s.hs id = o := ⟨_, rfl⟩
  rw [ho] at HH
  cases o with
  | none =>
    have HE := Lib.hid (show seekP s id k = (11, s) by unfold seekP; rw [ho])
    clear h ho hid
    go_enter Tryz.func52, Tryz.ntmps52
    go_wp2_with fail
    refine HH.out.mono ?_
    rintro e w' ⟨rfl, rfl⟩
    go_wp2
    go_ret
    rw [HE.out]
    exact ⟨rfl, Turn.refl HP.out⟩
  | some j =>
    obtain ⟨i, g1, c1, g2, c2, ats, rfl, ha⟩ := h.head ho
    obtain ⟨NA, nn, nc, EA, ne, ec, e1, e2, -⟩ := ha.rq.ex
    have x1 := e1.cell 1 rfl
    have x2 := e1.cell 2 rfl
    have hel := e2.elen
    have hec := e2.ecap
    by_cases hk0 : k < 0
    · have HE := Lib.hid (show seekP s (i : Int) k = (1, s) by unfold seekP; rw [ho]; simp only; rw [if_pos hk0])
      clear h ho ha hid hok e1 e2
      go_enter Tryz.func52, Tryz.ntmps52
      go_wp2_with fail
      refine HH.out.mono ?_
      rintro e w' ⟨rfl, rfl⟩
      go_wp2
      go_ret
      rw [HE.out]
      exact ⟨rfl, Turn.refl HP.out⟩
    by_cases hkn : (ne : Int) < k
    · have HE := Lib.hid (show seekP s (i : Int) k = (s.er, s) by unfold seekP; rw [ho]; simp only; rw [if_neg hk0, if_pos (by rw [hel]; exact hkn)])
      have hkn' : k > (ne : Int) := hkn
      clear h ho ha hid hok e1 e2
      go_enter Tryz.func52, Tryz.ntmps52
      go_wp2_with fail
      refine HH.out.mono ?_
      rintro e w' ⟨rfl, rfl⟩
      go_wp2
      go_ret
      rw [HE.out]
      exact ⟨rfl, Turn.refl HP.out⟩
    obtain ⟨q, rfl⟩ : ∃ q : Nat, k = (q : Int) := ⟨k.toNat, by omega⟩
    have HE := Lib.hid (show seekP s (i : Int) (q : Int) = (0, meterP { s with hs := s.hs.set i (some q) }) by unfold seekP; rw [ho]; simp only; rw [if_neg hk0, if_neg (by rw [hel]; exact hkn)]; rfl)
    have hkn' : ¬ ((q : Int) > (ne : Int)) := hkn
    have x5 := ha.x5
    have y2 := ha.y2
    have z2 := ha.z2
    have hlt : (i : Int) < (s.hs.length : Int) := by have := ha.lt; omega
    have hle := ha.c2le
    obtain ⟨D5, hr5, hd5, hl5⟩ := ha.move q
    have HFC := Lib.hid (refCells _ g D5 _ hr5 (hok.atp.set i (fun m hm => by injection hm with hm; subst hm; omega)) (by show (s.hs.set i (some q)).length ≤ _; rw [List.length_set]; omega) hpk)
    have HD5 := Lib.hid hd5
    have HL5 := Lib.hid hl5
    clear h ho ha hid hok e1 e2 hr5 hd5 hl5
    go_enter Tryz.func52, Tryz.ntmps52
    go_wp2_with fail
    refine HH.out.mono ?_
    rintro e w' ⟨rfl, rfl⟩
    go_wp2_with fail
    refine HFC.out.mono ?_
    rintro e w6 ⟨rfl, ht6⟩
    have HT6 := Lib.hid (ht6.step HD5.out HL5.out)
    clear ht6
    go_wp2
    go_ret
    rw [HE.out]
    exact ⟨rfl, HT6.out⟩
end Go.Proofs.YtimbbfneaaglbaaGreat.Heads

namespace Go.Proofs.YtimbbfneaaglbaaGreat.Record
open Go.RowKit Go.Proofs.YtimbbfneaaglbaaGreat.Ints Go.Proofs.YtimbbfneaaglbaaGreat.Mem Go.Proofs.YtimbbfneaaglbaaGreat.SumMath Go.Proofs.YtimbbfneaaglbaaGreat.SumWalks Go.Proofs.YtimbbfneaaglbaaGreat.Trace

theorem bits_or_u64 (a b : Nat) (ha : a < 18446744073709551616) (hb : b < 18446744073709551616) : bits .or .u64 (a : Int) (b : Int) = ((a ||| b : Nat) : Int) := by
  have hx : a ||| b < 2 ^ 64 := Nat.or_lt_two_pow (by omega) (by omega)
  have h1 : (BitVec.ofInt 64 (a : Int)).toNat = a := by
    rw [BitVec.ofInt_natCast, BitVec.toNat_ofNat]; exact Nat.mod_eq_of_lt (by omega)
  have h2 : (BitVec.ofInt 64 (b : Int)).toNat = b := by
    rw [BitVec.ofInt_natCast, BitVec.toNat_ofNat]; exact Nat.mod_eq_of_lt (by omega)
  show IntKind.u64.wrap ((BitVec.ofInt 64 (a : Int) ||| BitVec.ofInt 64 (b : Int)).toNat : Int) = _
  rw [BitVec.toNat_or, h1, h2]
  simp only [IntKind.wrap, IntKind.bits, IntKind.signed]
  simp
  omega
theorem or_byte (x y : Int) (hx : 0 ≤ x) (hs : x ≤ 72057594037927935) (hy : 0 ≤ y ∧ y ≤ 255) : bits .or .u64 (x * 256) y = x * 256 + y := by
  obtain ⟨a, rfl⟩ := Int.eq_ofNat_of_zero_le hx
  obtain ⟨b, rfl⟩ := Int.eq_ofNat_of_zero_le hy.1
  have e : (a : Int) * 256 = ((2 ^ 8 * a : Nat) : Int) := by rw [Int.natCast_mul, Int.mul_comm]; rfl
  rw [e, bits_or_u64 _ _ (by omega) (by omega), ← Nat.two_pow_add_eq_or_of_lt (by omega) a, Int.natCast_add]

set_option maxHeartbeats 400000 in
theorem landNumber (A : Option Addr) (n c : Nat) (zs : List Int) (w : World) (hn : n ≤ 8) (h : Rd .u8 w A n zs) :
    Calls Tryz.prog 117 #[.slice A n c] w fun e w' => e = .returned (.int .u64 (numR zs)) ∧ w = w' := by
  have hl := h.len
  have hbd := h.u8
  have hcell := h.cell
  have HB := Lib.hid (all_u8 h.all)
  clear h
  have HL := Lib.hid hl
  clear hl
  go_enter Tryz.func117, Tryz.ntmps117
  go_wp2
  go_loop [3, 8] (fun a i => ∃ k : Nat, k ≤ n ∧ i = .int .i64 k ∧ a = .int .u64 (numR (zs.take k))) (fun _ i => n - (intOf i).toNat)
  case atStart => exact ⟨0, Nat.zero_le _, rfl, rfl⟩
  case round =>
    obtain ⟨k, hk, rfl, rfl⟩ := hrel
    have hbk := num_bd k (zs.take k) (by rw [List.length_take]; omega) (fun z hz => HB.out z (List.mem_of_mem_take hz))
    by_cases hlt : k < n
    · obtain ⟨b, off, rfl, hc⟩ := hcell (by omega)
      have hc1 := hc k hlt
      have hb1 := hbd k hlt
      clear hcell hbd hc
      have hpw : 256 ^ k ≤ 256 ^ 7 := Nat.pow_le_pow_right (by decide) (by omega)
      have h7 : (256 : Nat) ^ 7 = 72057594037927936 := by decide
      obtain ⟨X, hX⟩ : ∃ X, numR (zs.take k) = X := ⟨_, rfl⟩
      rw [hX] at hbk ⊢
      have hx0 : 0 ≤ X := hbk.1
      have hx1 : X ≤ 72057594037927935 := by omega
      have HS := Lib.hid (take_snoc zs k (by rw [HL.out]; exact hlt))
      obtain ⟨z, hz⟩ : ∃ z, zs[k]?.getD 0 = z := ⟨_, rfl⟩
      rw [hz] at hc1 hb1
      have HZ := Lib.hid hz
      have HX := Lib.hid hX
      have HO := Lib.hid (or_byte X z hx0 hx1 hb1)
      clear hz hX hbk hpw h7
      go_wp2
      go_round
      case rel => exact ⟨k + 1, by omega, by go_num, by rw [HO.out, HS.out, num_snoc, HX.out, HZ.out]⟩
      case measure => simp [intOf]; omega
    · clear hbk
      go_wp2
      go_ret
      exact ⟨ret_int (by rw [List.take_of_length_le (by rw [HL.out]; omega)]), rfl⟩

set_option maxHeartbeats 4000000 in
set_option maxRecDepth 100000 in
theorem landRising (A : Option Addr) (n c : Nat) (p : Int) (l : List Int) (w : World) (h : Rd .i64 w A n l) (hm : n ≤ maxLen) :
    Calls Tryz.prog 66 #[.slice A n c, .int .i64 p] w fun e w' => e = .returned (.bool (idsOk l p)) ∧ w' = w := by
  have hni : (n : Int) ≤ 9223372036854775807 := by have : maxLen = 9223372036854775807 := rfl; omega
  have HD := Lib.hid h
  have HL := Lib.hid h.len
  clear h hm
  go_enter Tryz.func66, Tryz.ntmps66
  go_wp2
  go_loop [5, 10] (fun v i => ∃ (k : Nat) (y : Int), k ≤ n ∧ i = .int .i64 k ∧ v = .int .i64 y ∧ Hid ((∀ j, j < k → IdGood l p j) ∧ y = if k = 0 then -1 else l.getD (k - 1) 0)) (fun _ i => n - (intOf i).toNat)
  case atStart => exact ⟨0, -1, Nat.zero_le _, rfl, rfl, fun j hj => absurd hj (by omega), rfl⟩
  case round =>
    obtain ⟨k, y, hk, rfl, rfl, HG⟩ := hrel
    by_cases hkn : k < n
    · have hkn' : (k : Int) < (n : Int) := by omega
      obtain ⟨b, off, e, hc⟩ := HD.out.cell (by omega)
      have x0 := hc k hkn
      have hw := wf_i64 (HD.out.wf k hkn)
      have hgk : l.getD k 0 = l[k]?.getD 0 := by simp [List.getD]
      have hlen : k < l.length := by have := HL.out; omega
      obtain ⟨x, hx⟩ : ∃ x, l[k]?.getD 0 = x := ⟨_, rfl⟩
      rw [hx] at x0 hw hgk
      obtain ⟨hw1, hw2⟩ := hw
      subst e
      have hgood : IdGood l p k ↔ y < x ∧ x < p := by
        have hy := HG.out.2
        by_cases h0 : k = 0
        · rw [if_pos h0] at hy
          unfold IdGood
          rw [hgk]
          constructor
          · rintro ⟨h1, h2, -⟩; omega
          · rintro ⟨h1, h2⟩; exact ⟨by omega, h2, fun h => absurd h (by omega)⟩
        · rw [if_neg h0] at hy
          have h1 := (HG.out.1 (k - 1) (by omega)).1
          unfold IdGood
          rw [hgk, ← hy]
          rw [← hy] at h1
          constructor
          · rintro ⟨-, h2, h3⟩; exact ⟨h3 (by omega), h2⟩
          · rintro ⟨h2, h3⟩; exact ⟨by omega, h3, fun _ => h2⟩
      by_cases h1 : x ≤ y
      · have h1' : decide (x ≤ y) = true := decide_eq_true h1
        have HR := Lib.hid (ids_no (p := p) hlen (fun e => by have := (hgood.1 e).1; omega))
        clear hgk hlen hx hc hgood
        go_wp2
        go_ret
        exact ⟨by rw [HR.out]; rfl, rfl⟩
      · have h1' : decide (x ≤ y) = false := decide_eq_false h1
        by_cases h2 : p ≤ x
        · have h2' : decide (x ≥ p) = true := decide_eq_true h2
          have HR := Lib.hid (ids_no (p := p) hlen (fun e => by have := (hgood.1 e).2; omega))
          clear hgk hlen hx hc hgood
          go_wp2
          go_ret
          exact ⟨by rw [HR.out]; rfl, rfl⟩
        · have h2' : decide (x ≥ p) = false := decide_eq_false h2
          have HZ := Lib.hid (good_more HG.out.1 (p := IdGood l p) (k := k) (hgood.2 ⟨by omega, by omega⟩))
          have HK := Lib.hid hgk
          clear hgk hlen hx hc hgood
          go_wp2
          go_round
          case rel => exact ⟨k + 1, x, by omega, by go_num, rfl, HZ.out, by rw [if_neg (by omega), show k + 1 - 1 = k by omega, HK.out]⟩
          case measure => simp [intOf]; omega
    · have hge : decide ((k : Int) < (n : Int)) = false := by simp; omega
      have HR := Lib.hid (ids_yes (l := l) (p := p) (fun j hj => HG.out.1 j (by have := HL.out; omega)))
      go_wp2
      go_ret
      exact ⟨by rw [HR.out]; rfl, rfl⟩
end Go.Proofs.YtimbbfneaaglbaaGreat.Record

namespace Go.Proofs.YtimbbfneaaglbaaGreat.Record
open Go.RowKit Go.Proofs.YtimbbfneaaglbaaGreat.Ints Go.Proofs.YtimbbfneaaglbaaGreat.Mem Go.Proofs.YtimbbfneaaglbaaGreat.SumMath Go.Proofs.YtimbbfneaaglbaaGreat.SumWalks Go.Proofs.YtimbbfneaaglbaaGreat.Trace

theorem one_byte {z : Int} (h : 0 ≤ z ∧ z ≤ 255) : ∀ y ∈ [z], (Lit.int .u8 y).wf = true := fun y hy => by rw [List.mem_singleton.1 hy]; exact u8_wf h
theorem row_more {w : World} {base : Nat} {e : TypeId} {v : Value} {n m : Nat} {xs ys : List Int} {k : IntKind} (hm : n = m) (h : xs = ys) (ho : w.ownsRow base e 1 v n (xs.map (Value.int k))) : w.ownsRow base e 1 v m (ys.map (Value.int k)) := by
  subst hm; subst h; exact ho

set_option maxHeartbeats 4000000 in
set_option maxRecDepth 100000 in
theorem landWrite2 (v : Value) (n : Nat) (zs : List Int) (x : Int) (base : Nat) (w : World) (hx0 : 0 ≤ x) (hx1 : x ≤ 65535) (hown : w.ownsRow base 5 1 v n (zs.map (Value.int .u8))) (hb : base ≤ w.heap.size) (hn : n ≤ 1000) :
    Calls Tryz.prog 89 #[v, .int .u64 x, .int .i64 2] w fun e w' => ∃ v', e = .returned v' ∧ w'.ownsRow base 5 1 v' (n + 2) ((zs ++ be2 x).map (Value.int .u8)) ∧ Below base w w' := by
  obtain ⟨i0, hi, hz0, hz1, hz2⟩ := info_parts info5'
  go_enter Tryz.func89, Tryz.ntmps89
  go_wp2
  go_loopw [0, 7] (fun v i wr => ∃ k : Nat, k ≤ 2 ∧ i = .int .i64 (1 - (k : Int)) ∧ wr.ownsRow base 5 1 v (n + k) ((zs ++ (be2 x).take k).map (Value.int .u8)) ∧ Below base w wr) (fun _ i _ => (intOf i + 1).toNat)
  case atStart => exact ⟨0, Nat.zero_le _, rfl, by simpa using hown, Below.refl _ _⟩
  case round =>
    obtain ⟨k, hk, rfl, hrow, hB⟩ := hrel
    have hBs : base ≤ wr.heap.size := Nat.le_trans hb hB.size
    obtain rfl | rfl | rfl : k = 0 ∨ k = 1 ∨ k = 2 := by omega
    · go_wp2_with (at_builtin; refine wpList_append_ints rfl (.tmp 14) (.tmp 20) 28 rfl .u8 base 5 i0 1 Tryz.underlying28 hi hz0 hz1 hz2 _ _ _ rfl (hrow.alloc _) _ 1 1 [x / 256] rfl (Rd.lit wr 5 (0, 0) [x / 256] (one_byte (by omega))) (by have : maxLen = 9223372036854775807 := rfl; omega) (by omega) (le_alloc hBs) ?_; intro v2 w2 hown2 hgr2)
      go_roundw
      case rel => exact ⟨1, by omega, by go_num, row_more rfl (by simp [be2] <;> omega) hown2, (hB.alloc hBs _).grown hgr2 (le_alloc hBs) (fun z hz => (hrow.lt z hz).1)⟩
      case measure => simp [intOf]
    · go_wp2_with (at_builtin; refine wpList_append_ints rfl (.tmp 14) (.tmp 20) 28 rfl .u8 base 5 i0 1 Tryz.underlying28 hi hz0 hz1 hz2 _ _ _ rfl (hrow.alloc _) _ 1 1 [x % 256] rfl (Rd.lit wr 5 (0, 0) [x % 256] (one_byte (by omega))) (by have : maxLen = 9223372036854775807 := rfl; omega) (by omega) (le_alloc hBs) ?_; intro v2 w2 hown2 hgr2)
      go_roundw
      case rel => exact ⟨2, by omega, by go_num, row_more rfl (by simp [be2] <;> omega) hown2, (hB.alloc hBs _).grown hgr2 (le_alloc hBs) (fun z hz => (hrow.lt z hz).1)⟩
      case measure => simp [intOf]
    · go_wp2
      go_ret
      exact ⟨_, rfl, hrow, hB⟩

set_option maxHeartbeats 4000000 in
set_option maxRecDepth 100000 in
theorem landWrite8 (v : Value) (n : Nat) (zs : List Int) (x : Int) (base : Nat) (w : World) (hx0 : 0 ≤ x) (hx1 : x ≤ 18446744073709551615) (hown : w.ownsRow base 5 1 v n (zs.map (Value.int .u8))) (hb : base ≤ w.heap.size) (hn : n ≤ 1000) :
    Calls Tryz.prog 89 #[v, .int .u64 x, .int .i64 8] w fun e w' => ∃ v', e = .returned v' ∧ w'.ownsRow base 5 1 v' (n + 8) ((zs ++ be8 x).map (Value.int .u8)) ∧ Below base w w' := by
  obtain ⟨i0, hi, hz0, hz1, hz2⟩ := info_parts info5'
  go_enter Tryz.func89, Tryz.ntmps89
  go_wp2
  go_loopw [0, 7] (fun v i wr => ∃ k : Nat, k ≤ 8 ∧ i = .int .i64 (7 - (k : Int)) ∧ wr.ownsRow base 5 1 v (n + k) ((zs ++ (be8 x).take k).map (Value.int .u8)) ∧ Below base w wr) (fun _ i _ => (intOf i + 1).toNat)
  case atStart => exact ⟨0, Nat.zero_le _, rfl, by simpa using hown, Below.refl _ _⟩
  case round =>
    obtain ⟨k, hk, rfl, hrow, hB⟩ := hrel
    have hBs : base ≤ wr.heap.size := Nat.le_trans hb hB.size
    obtain rfl | rfl | rfl | rfl | rfl | rfl | rfl | rfl | rfl : k = 0 ∨ k = 1 ∨ k = 2 ∨ k = 3 ∨ k = 4 ∨ k = 5 ∨ k = 6 ∨ k = 7 ∨ k = 8 := by omega
    · go_wp2_with (at_builtin; refine wpList_append_ints rfl (.tmp 14) (.tmp 20) 28 rfl .u8 base 5 i0 1 Tryz.underlying28 hi hz0 hz1 hz2 _ _ _ rfl (hrow.alloc _) _ 1 1 [x / 72057594037927936] rfl (Rd.lit wr 5 (0, 0) [x / 72057594037927936] (one_byte (by omega))) (by have : maxLen = 9223372036854775807 := rfl; omega) (by omega) (le_alloc hBs) ?_; intro v2 w2 hown2 hgr2)
      go_roundw
      case rel => exact ⟨1, by omega, by go_num, row_more rfl (by simp [be8] <;> omega) hown2, (hB.alloc hBs _).grown hgr2 (le_alloc hBs) (fun z hz => (hrow.lt z hz).1)⟩
      case measure => simp [intOf]
    · go_wp2_with (at_builtin; refine wpList_append_ints rfl (.tmp 14) (.tmp 20) 28 rfl .u8 base 5 i0 1 Tryz.underlying28 hi hz0 hz1 hz2 _ _ _ rfl (hrow.alloc _) _ 1 1 [x / 281474976710656 % 256] rfl (Rd.lit wr 5 (0, 0) [x / 281474976710656 % 256] (one_byte (by omega))) (by have : maxLen = 9223372036854775807 := rfl; omega) (by omega) (le_alloc hBs) ?_; intro v2 w2 hown2 hgr2)
      go_roundw
      case rel => exact ⟨2, by omega, by go_num, row_more rfl (by simp [be8] <;> omega) hown2, (hB.alloc hBs _).grown hgr2 (le_alloc hBs) (fun z hz => (hrow.lt z hz).1)⟩
      case measure => simp [intOf]
    · go_wp2_with (at_builtin; refine wpList_append_ints rfl (.tmp 14) (.tmp 20) 28 rfl .u8 base 5 i0 1 Tryz.underlying28 hi hz0 hz1 hz2 _ _ _ rfl (hrow.alloc _) _ 1 1 [x / 1099511627776 % 256] rfl (Rd.lit wr 5 (0, 0) [x / 1099511627776 % 256] (one_byte (by omega))) (by have : maxLen = 9223372036854775807 := rfl; omega) (by omega) (le_alloc hBs) ?_; intro v2 w2 hown2 hgr2)
      go_roundw
      case rel => exact ⟨3, by omega, by go_num, row_more rfl (by simp [be8] <;> omega) hown2, (hB.alloc hBs _).grown hgr2 (le_alloc hBs) (fun z hz => (hrow.lt z hz).1)⟩
      case measure => simp [intOf]
    · go_wp2_with (at_builtin; refine wpList_append_ints rfl (.tmp 14) (.tmp 20) 28 rfl .u8 base 5 i0 1 Tryz.underlying28 hi hz0 hz1 hz2 _ _ _ rfl (hrow.alloc _) _ 1 1 [x / 4294967296 % 256] rfl (Rd.lit wr 5 (0, 0) [x / 4294967296 % 256] (one_byte (by omega))) (by have : maxLen = 9223372036854775807 := rfl; omega) (by omega) (le_alloc hBs) ?_; intro v2 w2 hown2 hgr2)
      go_roundw
      case rel => exact ⟨4, by omega, by go_num, row_more rfl (by simp [be8] <;> omega) hown2, (hB.alloc hBs _).grown hgr2 (le_alloc hBs) (fun z hz => (hrow.lt z hz).1)⟩
      case measure => simp [intOf]
    · go_wp2_with (at_builtin; refine wpList_append_ints rfl (.tmp 14) (.tmp 20) 28 rfl .u8 base 5 i0 1 Tryz.underlying28 hi hz0 hz1 hz2 _ _ _ rfl (hrow.alloc _) _ 1 1 [x / 16777216 % 256] rfl (Rd.lit wr 5 (0, 0) [x / 16777216 % 256] (one_byte (by omega))) (by have : maxLen = 9223372036854775807 := rfl; omega) (by omega) (le_alloc hBs) ?_; intro v2 w2 hown2 hgr2)
      go_roundw
      case rel => exact ⟨5, by omega, by go_num, row_more rfl (by simp [be8] <;> omega) hown2, (hB.alloc hBs _).grown hgr2 (le_alloc hBs) (fun z hz => (hrow.lt z hz).1)⟩
      case measure => simp [intOf]
    · go_wp2_with (at_builtin; refine wpList_append_ints rfl (.tmp 14) (.tmp 20) 28 rfl .u8 base 5 i0 1 Tryz.underlying28 hi hz0 hz1 hz2 _ _ _ rfl (hrow.alloc _) _ 1 1 [x / 65536 % 256] rfl (Rd.lit wr 5 (0, 0) [x / 65536 % 256] (one_byte (by omega))) (by have : maxLen = 9223372036854775807 := rfl; omega) (by omega) (le_alloc hBs) ?_; intro v2 w2 hown2 hgr2)
      go_roundw
      case rel => exact ⟨6, by omega, by go_num, row_more rfl (by simp [be8] <;> omega) hown2, (hB.alloc hBs _).grown hgr2 (le_alloc hBs) (fun z hz => (hrow.lt z hz).1)⟩
      case measure => simp [intOf]
    · go_wp2_with (at_builtin; refine wpList_append_ints rfl (.tmp 14) (.tmp 20) 28 rfl .u8 base 5 i0 1 Tryz.underlying28 hi hz0 hz1 hz2 _ _ _ rfl (hrow.alloc _) _ 1 1 [x / 256 % 256] rfl (Rd.lit wr 5 (0, 0) [x / 256 % 256] (one_byte (by omega))) (by have : maxLen = 9223372036854775807 := rfl; omega) (by omega) (le_alloc hBs) ?_; intro v2 w2 hown2 hgr2)
      go_roundw
      case rel => exact ⟨7, by omega, by go_num, row_more rfl (by simp [be8] <;> omega) hown2, (hB.alloc hBs _).grown hgr2 (le_alloc hBs) (fun z hz => (hrow.lt z hz).1)⟩
      case measure => simp [intOf]
    · go_wp2_with (at_builtin; refine wpList_append_ints rfl (.tmp 14) (.tmp 20) 28 rfl .u8 base 5 i0 1 Tryz.underlying28 hi hz0 hz1 hz2 _ _ _ rfl (hrow.alloc _) _ 1 1 [x % 256] rfl (Rd.lit wr 5 (0, 0) [x % 256] (one_byte (by omega))) (by have : maxLen = 9223372036854775807 := rfl; omega) (by omega) (le_alloc hBs) ?_; intro v2 w2 hown2 hgr2)
      go_roundw
      case rel => exact ⟨8, by omega, by go_num, row_more rfl (by simp [be8] <;> omega) hown2, (hB.alloc hBs _).grown hgr2 (le_alloc hBs) (fun z hz => (hrow.lt z hz).1)⟩
      case measure => simp [intOf]
    · go_wp2
      go_ret
      exact ⟨_, rfl, hrow, hB⟩
end Go.Proofs.YtimbbfneaaglbaaGreat.Record

namespace Go.Proofs.YtimbbfneaaglbaaGreat.Record
open Go.RowKit Go.Proofs.YtimbbfneaaglbaaGreat.Ints Go.Proofs.YtimbbfneaaglbaaGreat.Mem Go.Proofs.YtimbbfneaaglbaaGreat.SumMath Go.Proofs.YtimbbfneaaglbaaGreat.SumWalks

theorem zero_size (z : Array Value) (n : Nat) : (Builtin.zeroCells z n).size = n * z.size := by simp [Builtin.zeroCells]

set_option maxHeartbeats 4000000 in
set_option maxRecDepth 100000 in
theorem growNil (n : Nat) (w : World) (h0 : 0 < n) (hn : n ≤ 140737488355328) :
    Calls Tryz.prog 88 #[.slice none 0 0, .int .i64 n] w fun e w' => ∃ v', e = .returned v' ∧ w'.ownsRow w.heap.size 5 1 v' 0 [] ∧ Below w.heap.size w w' := by
  obtain ⟨i0, hi, hz0, hz1, hz2⟩ := info_parts info5'
  have hrz : ∀ ty, (Builtin.append_ #[28, 3] ty #[.slice none 0 0, .int .i64 (n : Int)]).run Tryz.prog w =
      .ok (.slice (some ⟨w.heap.size, 0, none⟩) n (grownCap w n 0 5)) (w.drew.alloc (.cells (Builtin.zeroCells (Value.int .u8 0).cells n ++ Builtin.zeroCells (Value.int .u8 0).cells (grownCap w n 0 5 - n)) 5)) := fun ty =>
    Lib.run_append_nil_zeros w 28 3 ty 5 i0 (.int .u8 0) .i64 .i64 Tryz.underlying28 Tryz.underlying3 hi hz0 n h0 (by rw [hz1]; decide) (by omega) (by rw [hz2]; omega)
  have hG := grownCap_ge w n 0 5
  have hGm := grownCap_le_maxLen w n 0 5 (by unfold maxLen; omega)
  obtain ⟨G, eG⟩ : ∃ G, grownCap w n 0 5 = G := ⟨_, rfl⟩
  rw [eG] at hrz hG hGm
  have hsz : (Builtin.zeroCells (Value.int .u8 0).cells n ++ Builtin.zeroCells (Value.int .u8 0).cells (G - n)).size = G * 1 := by
    rw [Array.size_append, zero_size, zero_size]
    show n * 1 + (G - n) * 1 = G * 1
    omega
  obtain ⟨cs, hcs⟩ : ∃ cs, Builtin.zeroCells (Value.int .u8 0).cells n ++ Builtin.zeroCells (Value.int .u8 0).cells (G - n) = cs := ⟨_, rfl⟩
  rw [hcs] at hrz hsz
  clear hcs eG
  have g1 : ¬ ((n : Int) < 0) := by omega
  have g2 : (n : Int) > 0 := by omega
  have hGi : (G : Int) ≤ 9223372036854775807 := by have : maxLen = 9223372036854775807 := rfl; omega
  go_enter Tryz.func88, Tryz.ntmps88
  go_wp2_with (at_builtin; refine Lib.wpList_append_run _ rfl _ _ _ _ rfl _ _ rfl rfl _ _ (hrz _) ?_)
  go_ret
  exact ⟨_, rfl, World.ownsRow_made w.drew cs G (Nat.le_refl _) hGm hsz, ((Below.refl _ _).drew).alloc (Nat.le_refl _) _⟩

set_option maxHeartbeats 4000000 in
set_option maxRecDepth 100000 in
theorem concat2 (g : Nat) (A1 A2 : Option Addr) (n1 c1 n2 c2 : Nat) (zs1 zs2 : List Int) (w : World) (k0 : w.cell? ⟨g, 0, none⟩ = some (.slice A1 n1 c1)) (k1 : w.cell? ⟨g, 1, none⟩ = some (.slice A2 n2 c2))
    (h1 : Rd .u8 w A1 n1 zs1) (h2 : Rd .u8 w A2 n2 zs2) (h0 : 0 < n1 + n2) (hn : n1 + n2 ≤ 140737488355328) :
    Calls Tryz.prog 67 #[.slice (some ⟨g, 0, none⟩) 2 2] w (Made w (n1 + n2) (zs1 ++ zs2)) := by
  obtain ⟨i0, hi, hz0, hz1, hz2⟩ := info_parts info5'
  have HG := Lib.hid (growNil (n1 + n2) w h0 hn)
  have q63 : maxLen = 9223372036854775807 := rfl
  have s1 : (n1 : Int) ≤ 140737488355328 := by omega
  have s2 : (n1 : Int) + (n2 : Int) ≤ 140737488355328 := by omega
  have s3 : ¬ ((n1 : Int) < 0) := by omega
  have s4 : ¬ ((n1 : Int) + (n2 : Int) < 0) := by omega
  have hgl : g < w.heap.size := World.block_lt_of_cell? w _ k0
  go_enter Tryz.func67, Tryz.ntmps67
  go_wp2
  go_loop [3, 11] (fun s i => (i = .int .i64 0 ∧ s = .int .i64 0) ∨ (i = .int .i64 1 ∧ s = .int .i64 (n1 : Int)) ∨ (i = .int .i64 2 ∧ s = .int .i64 ((n1 : Int) + (n2 : Int)))) (fun _ i => 2 - (intOf i).toNat)
  case atStart => exact Or.inl ⟨rfl, rfl⟩
  case round =>
    rcases hrel with ⟨rfl, rfl⟩ | ⟨rfl, rfl⟩ | ⟨rfl, rfl⟩
    · go_wp2
      go_round
      case rel => exact Or.inr (Or.inl ⟨rfl, rfl⟩)
      case measure => simp [intOf]
    · go_wp2
      go_round
      case rel => exact Or.inr (Or.inr ⟨rfl, rfl⟩)
      case measure => simp [intOf]
    · go_wp2_with fail
      refine HG.out.mono ?_
      rintro e w1 ⟨v', rfl, hown, hB⟩
      have hsz := hB.size
      have m0 := (hB.cell (p := ⟨g, 0, none⟩) hgl).trans k0
      have m1 := (hB.cell (p := ⟨g, 1, none⟩) hgl).trans k1
      go_wp2_with fail
      go_loopw [6, 27] (fun v i wr => Below w.heap.size w wr ∧ ((i = .int .i64 0 ∧ wr.ownsRow w.heap.size 5 1 v 0 (([] : List Int).map (Value.int .u8))) ∨ (i = .int .i64 1 ∧ wr.ownsRow w.heap.size 5 1 v n1 (zs1.map (Value.int .u8))) ∨ (i = .int .i64 2 ∧ wr.ownsRow w.heap.size 5 1 v (n1 + n2) ((zs1 ++ zs2).map (Value.int .u8))))) (fun _ i _ => 2 - (intOf i).toNat)
      case atStart => exact ⟨hB, Or.inl ⟨rfl, hown⟩⟩
      case round =>
        obtain ⟨hBr, hrel⟩ := hrel
        have hszr := hBr.size
        have r0 := (hBr.cell (p := ⟨g, 0, none⟩) hgl).trans k0
        have r1 := (hBr.cell (p := ⟨g, 1, none⟩) hgl).trans k1
        clear m0 m1 hown hB
        rcases hrel with ⟨rfl, hrow⟩ | ⟨rfl, hrow⟩ | ⟨rfl, hrow⟩
        · go_wp2_with (at_builtin; refine wpList_append_ints rfl _ _ 28 rfl .u8 w.heap.size 5 i0 1 Tryz.underlying28 hi hz0 hz1 hz2 _ _ _ rfl hrow _ _ _ zs1 rfl (h1.below hBr) (by omega) (by omega) hszr ?_; intro v2 w2 hown2 hgr2)
          go_roundw
          case rel => exact ⟨hBr.grown hgr2 hszr (fun z hz => (hrow.lt z hz).1), Or.inr (Or.inl ⟨rfl, by simpa using hown2⟩)⟩
          case measure => simp [intOf]
        · go_wp2_with (at_builtin; refine wpList_append_ints rfl _ _ 28 rfl .u8 w.heap.size 5 i0 1 Tryz.underlying28 hi hz0 hz1 hz2 _ _ _ rfl hrow _ _ _ zs2 rfl (h2.below hBr) (by omega) (by omega) hszr ?_; intro v2 w2 hown2 hgr2)
          go_roundw
          case rel => exact ⟨hBr.grown hgr2 hszr (fun z hz => (hrow.lt z hz).1), Or.inr (Or.inr ⟨rfl, hown2⟩)⟩
          case measure => simp [intOf]
        · go_wp2
          go_ret
          exact ⟨_, rfl, hrow, hBr⟩
end Go.Proofs.YtimbbfneaaglbaaGreat.Record
