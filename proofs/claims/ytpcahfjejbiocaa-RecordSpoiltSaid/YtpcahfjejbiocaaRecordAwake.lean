/-
  The laws' awake and got (stage 9). By an AI agent.
-/
import Derived.Test.YtpcahfjejbiocaaRecordPut
import Derived.Test.YtpcahfjejbiocaaRecordRefGet
namespace Go.Proofs.Ytpcahfjejbiocaa.Record
open Go.RowKit Go.Proofs.Ytpcahfjejbiocaa.Ints Go.Proofs.Ytpcahfjejbiocaa.Mem Go.Proofs.Ytpcahfjejbiocaa.SumMath Go.Proofs.Ytpcahfjejbiocaa.SumWalks Go.Proofs.Ytpcahfjejbiocaa.Trace

def wakeE : Ev := ⟨1, []⟩
def wakeB : List Int := [0, 8, 0, 0, 0, 0, 0, 0, 0, 1, 0, 83, 0, 10]
theorem wake_put : putR [] wakeE = wakeB := by decide +kernel
theorem wake_err : errR wakeB (propsR 0) = 0 := by decide +kernel
theorem wake_ev : getE wakeB 0 = wakeE := by decide +kernel
theorem wake_n : getN wakeB 0 = 14 := by decide +kernel

set_option maxHeartbeats 4000000 in
set_option maxRecDepth 100000 in
theorem awake (w : World) : Calls Try.prog 12 #[] w fun e w' => e = .returned (.bool true) ∧ Below w.heap.size w w' := by
  have q63 : maxLen = 9223372036854775807 := rfl
  have FP := landPut none 0 0 [] wakeE none 0 w (fun _ => rfl) (Nat.le_refl _) (by decide) (Rd.nil _ _ _) ⟨by decide, Rd.nil _ _ _, Nat.le_refl _, by decide⟩
  rw [wake_put] at FP
  have FP2 : Calls Try.prog 10 #[.slice none 0 0, .agg #[.int .u64 1, .slice none 0 0]] w fun e w' => ∃ A c, e = .returned (.slice A 14 c) ∧ Rd .u8 w' A 14 wakeB ∧ 14 ≤ c ∧ c ≤ maxLen ∧ Below w.heap.size w w' :=
    FP.mono fun e w' hmade => by
      obtain ⟨A1, c1, h1, h2, h3, h4, -, -, h5⟩ := made_slice hmade (u8_all (by decide))
      exact ⟨A1, c1, h1, h2, h3, h4, h5⟩
  have HP := Lib.hid FP2
  clear FP FP2
  go_enter Try.func12, Try.ntmps12
  go_wp2_with fail
  refine HP.out.mono ?_
  rintro e w1 ⟨A1, c1, rfl, hr1, hc1, hm1, hB1⟩
  have FG := landGet A1 14 c1 wakeB 0 w1 hc1 hm1 hr1
  unfold GotGet at FG
  rw [wake_err, wake_ev, wake_n] at FG
  have FG2 : Calls Try.prog 15 #[.slice A1 14 c1, .int .i64 0] w1 fun e w' => ∃ K c, e = .returned (.tuple #[.agg #[.int .u64 1, .slice K 0 c], .int .i64 14, .int .i64 0]) ∧ Below w1.heap.size w1 w' :=
    FG.mono fun e w' ⟨K, c, h1, _, h2, _⟩ => ⟨K, c, h1, h2⟩
  have HG := Lib.hid FG2
  have HR := Lib.hid hr1
  clear FG FG2 HP hr1
  go_wp2_with fail
  refine HG.out.mono ?_
  rintro e w2 ⟨K, k, rfl, hB2⟩
  obtain ⟨b, off, rfl, hc⟩ := (HR.out.below hB2).cell (by decide)
  have x1 : w2.cell? ⟨b, off + 1, none⟩ = some (.int .u8 8) := hc 1 (by decide)
  have x9 : w2.cell? ⟨b, off + 9, none⟩ = some (.int .u8 1) := hc 9 (by decide)
  have z1 := Lib.cell?_alloc_marked (.cells #[.int .u64 1, .slice K 0 k] 26) x1
  have z9 := Lib.cell?_alloc_marked (.cells #[.int .u64 1, .slice K 0 k] 26) x9
  have b0 := Blk.new w2 #[.int .u64 1, .slice K 0 k] 26 [.int .u64 1, .slice K 0 k] rfl
  have y0 := b0.cell 0 rfl
  have HB := Lib.hid (hB1.trans (hB2.mono hB1.size))
  clear hc hB1 hB2 HG HR b0
  go_wp2
  go_ret
  exact ⟨rfl, HB.out.alloc HB.out.size _⟩

set_option maxHeartbeats 4000000 in
set_option maxRecDepth 100000 in
theorem lawGot (A : Option Addr) (n c : Nat) (zs : List Int) (p : Int) (w : World) (hnc : n ≤ c) (hc : c ≤ maxLen) (h : Rd .u8 w A n zs) :
    Calls Try.prog 13 #[.slice A n c, .int .i64 p] w fun e w' => e = .returned (.bool true) ∧ Below w.heap.size w w' := by
  have F1 := landGet A n c zs p w hnc hc h
  have F2 := fun W (hW : Below w.heap.size w W) => refGetR A n c zs p W hnc hc (h.below hW)
  unfold GotGet at F1 F2
  obtain ⟨x, hx⟩ : ∃ x, getE zs p = x := ⟨_, rfl⟩
  obtain ⟨m, hm⟩ : ∃ m, getN zs p = m := ⟨_, rfl⟩
  obtain ⟨f, hf⟩ : ∃ f, errR zs (propsR p) = f := ⟨_, rfl⟩
  rw [hx, hm, hf] at F1 F2
  have H1 := Lib.hid F1
  have H2 := Lib.hid F2
  clear F1 F2 hx hm hf h
  go_enter Try.func13, Try.ntmps13
  go_wp2_with fail
  refine H1.out.mono ?_
  rintro e w1 ⟨K1, k1, rfl, hk1, hB1, -⟩
  have HB1 := Lib.hid (hB1.alloc hB1.size (.cells #[.int .u64 x.time, .slice K1 x.ids.length k1] 26))
  have b1 := Blk.new w1 #[.int .u64 x.time, .slice K1 x.ids.length k1] 26 [.int .u64 x.time, .slice K1 x.ids.length k1] rfl
  have HK1 := Lib.hid (hk1.below ((Below.refl _ w1).alloc (Nat.le_refl _) (.cells #[.int .u64 x.time, .slice K1 x.ids.length k1] 26)))
  have HBK := Lib.hid b1
  clear hk1 hB1 b1
  go_wp2_with fail
  refine (H2.out _ HB1.out).mono ?_
  rintro e w2 ⟨K2, k2, rfl, hk2, hB2, -⟩
  have hB3 := HB1.out.trans (hB2.mono HB1.out.size)
  have b1 := (HBK.out.later hB2).alloc (.cells #[.int .u64 x.time, .slice K2 x.ids.length k2] 26)
  have b2 := Blk.new w2 #[.int .u64 x.time, .slice K2 x.ids.length k2] 26 [.int .u64 x.time, .slice K2 x.ids.length k2] rfl
  have y0 := b1.cell 0 rfl
  have y1 := b1.cell 1 rfl
  have z0 := b2.cell 0 rfl
  have z1 := b2.cell 1 rfl
  have hal := (Below.refl _ w2).alloc (Nat.le_refl _) (.cells #[.int .u64 x.time, .slice K2 x.ids.length k2] 26)
  have FS := refSameEvent x x K1 K2 k1 k2 _ ((HK1.out.below hB2).below hal) (hk2.below hal)
  have HS := Lib.hid FS
  have HB3 := Lib.hid (hB3.alloc hB3.size (.cells #[.int .u64 x.time, .slice K2 x.ids.length k2] 26))
  clear hk2 hB2 b1 b2 hB3 hal FS
  go_wp2_with fail
  refine HS.out.mono ?_
  rintro e w3 ⟨rfl, hB4⟩
  go_wp2
  go_ret
  exact ⟨rfl, HB3.out.trans (hB4.mono HB3.out.size)⟩
end Go.Proofs.Ytpcahfjejbiocaa.Record
