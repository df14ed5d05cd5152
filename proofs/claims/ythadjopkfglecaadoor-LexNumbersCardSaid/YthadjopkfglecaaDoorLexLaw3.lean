/-
  The walk of the law LexNumbers. By an AI agent.
-/
import Derived.Test.YthadjopkfglecaaDoorLexAwake
import Derived.Test.YthadjopkfglecaaDoorLexTk
import Derived.Test.YthadjopkfglecaaDoorItoa
import Derived.Lib.ItoaMem
namespace Go.Proofs.YthadjopkfglecaaDoor.Lex
open Go.RowKit Go.Proofs.YthadjopkfglecaaDoor.Itoa

theorem list_append (a b : ByteArray) : (a ++ b).data.toList = a.data.toList ++ b.data.toList := by
  simp
theorem dec_list (v : Nat) : (dec (v : Int)).data.toList = Go.Lib.decDigits v := by
  show (Go.Lib.itoa (v : Int)) = _
  exact Go.Lib.itoa_nonneg v
theorem pad_list (k : Nat) (h : k ≤ 9) : ((({ data := #[32, 32, 32, 32, 32, 32, 32, 32, 32] } : ByteArray).extract 0 k).data.toList) = List.replicate k 32 := by
  match k, h with
  | 0, _ | 1, _ | 2, _ | 3, _ | 4, _ | 5, _ | 6, _ | 7, _ | 8, _ | 9, _ => rfl

set_option maxHeartbeats 4000000 in
theorem lawNumbers (n l : Nat) (w : World) (hn : n ≤ 65535) (hl : l ≤ 255) (hT : Tab10 w) :
    Calls Tryd.prog 3 #[.int .u16 (n : Int), .int .u8 (l : Int)] w fun e w' => e = .returned (.bool true) ∧ Below w.heap.size w w' := by
  obtain ⟨v, hv⟩ : ∃ v, n % 10000 = v := ⟨_, rfl⟩
  obtain ⟨k, hk⟩ : ∃ k, l % 9 = k := ⟨_, rfl⟩
  have c1 : ((n : Int) % 10000) = (v : Int) := by omega
  have c2 : ((l : Int) % 9) = (k : Int) := by omega
  have hv9 : v < 10000 := by omega
  have hk8 : k ≤ 8 := by omega
  have hvi : (v : Int) ≤ 9999 := by omega
  have hki : (k : Int) ≤ 9 := by omega
  obtain ⟨X, hX⟩ : ∃ X, (({ data := #[32, 32, 32, 32, 32, 32, 32, 32, 32] } : ByteArray).extract 0 k) = X := ⟨_, rfl⟩
  have hp := pad_list k (by omega)
  rw [hX] at hp
  have hXs : X.size = k := by
    have := congrArg List.length hp
    rw [Array.length_toList, List.length_replicate] at this
    exact this
  have hD := dec_list v
  have hds := dec_size (v : Int) (by omega)
  obtain ⟨D, hDe⟩ : ∃ D, dec (v : Int) = D := ⟨_, rfl⟩
  have hit := fun W (hW : Tab10 W) => itoa (v : Int) W (by omega) hW
  rw [hDe] at hD hds
  obtain ⟨f1, f2, f3⟩ := lex_number hv9 (pad := List.replicate k 32) (fun c hc => by rw [List.eq_of_mem_replicate hc]; decide) (by rw [List.length_replicate]; omega)
  rw [List.length_replicate] at f1 f2 f3
  have g1 := fun W => progLex (X ++ D) W (by rw [ByteArray.size_append]; have : maxLen = 9223372036854775807 := rfl; omega)
  have g2 := fun W => progLex (X ++ { data := #[48] } ++ D) W (by rw [ByteArray.size_append, ByteArray.size_append]; have : maxLen = 9223372036854775807 := rfl; have : ({ data := #[48] } : ByteArray).size = 1 := rfl; omega)
  have g3 := fun W => progLex (X ++ { data := #[49, 50, 51, 52] } ++ D) W (by rw [ByteArray.size_append, ByteArray.size_append]; have : maxLen = 9223372036854775807 := rfl; have : ({ data := #[49, 50, 51, 52] } : ByteArray).size = 4 := rfl; omega)
  have k1 := (congrArg lexS (show (X ++ D).data.toList = List.replicate k 32 ++ Go.Lib.decDigits v by rw [list_append, hp, hD])).trans f1
  have k2 := (congrArg lexS (show (X ++ { data := #[48] } ++ D).data.toList = List.replicate k 32 ++ (48 :: Go.Lib.decDigits v) by rw [list_append, list_append, hp, hD, List.append_assoc]; rfl)).trans f2
  have k3 := (congrArg lexS (show (X ++ { data := #[49, 50, 51, 52] } ++ D).data.toList = List.replicate k 32 ++ (49 :: 50 :: 51 :: 52 :: Go.Lib.decDigits v) by rw [list_append, list_append, hp, hD, List.append_assoc]; rfl)).trans f3
  rw [k1] at g1
  rw [k2] at g2
  rw [k3] at g3
  have HI := Lib.hid hit
  have G1 := Lib.hid g1
  have G2 := Lib.hid g2
  have G3 := Lib.hid g3
  have hm := guardTok
  have hcmp := fun W => tk_eql ⟨2, [], v, k⟩ ⟨2, [], v, k⟩ W
  simp only [decide_true] at hcmp
  clear hit g1 g2 g3 k1 k2 k3 f1 f2 f3 hD hp hv hk hv9 hk8
  have hn' : (n : Int) ≤ 65535 := by omega
  have hl' : (l : Int) ≤ 255 := by omega
  go_enter Tryd.func3, Tryd.ntmps3
  go_wp2_with fail
  refine (HI.out _ hT).mono ?_
  rintro e w1 ⟨rfl, hB1⟩
  rw [hDe]
  have HB1 := Lib.hid hB1
  clear hB1 hDe
  go_wp2_with fail
  refine (G1.out _).mono ?_
  rintro e w2 ⟨u1, rfl, t1, hB2⟩
  obtain ⟨b1, cc1, rfl, hlt, k1⟩ := toks_some t1
  obtain ⟨x1, x2, x3, x4⟩ := k1 0 _ rfl
  have HB2 := Lib.hid (HB1.out.trans (hB2.mono HB1.out.size))
  clear t1 k1 hB2
  go_wp2_with fail
  refine (G2.out _).mono ?_
  rintro e w3 ⟨u2, rfl, t2, hB3⟩
  obtain ⟨A2, cc2, rfl⟩ := toks_nil t2
  have HB3 := Lib.hid (HB2.out.trans (hB3.mono HB2.out.size))
  have H3 := Lib.hid hB3
  clear t2 hB3
  go_wp2_with fail
  refine (G3.out _).mono ?_
  rintro e w4 ⟨u3, rfl, t3, hB4⟩
  obtain ⟨A3, cc3, rfl⟩ := toks_nil t3
  have HB4 := Lib.hid (HB3.out.trans (hB4.mono HB3.out.size))
  have hlt3 : b1 < w3.heap.size := Nat.lt_of_lt_of_le hlt H3.out.size
  have y1 : w4.cell? ⟨b1, 0, none⟩ = some (.int .i64 2) := keepc hB4 hlt3 (keepc H3.out hlt x1)
  have y2 : w4.cell? ⟨b1, 1, none⟩ = some (.string { data := #[] }) := keepc hB4 hlt3 (keepc H3.out hlt x2)
  have y3 : w4.cell? ⟨b1, 2, none⟩ = some (.int .i64 (v : Int)) := keepc hB4 hlt3 (keepc H3.out hlt x3)
  have y4 : w4.cell? ⟨b1, 3, none⟩ = some (.int .i64 (k : Int)) := keepc hB4 hlt3 (keepc H3.out hlt x4)
  have hbe : bytes [] = { data := #[] } := rfl
  rw [hbe] at hcmp
  clear t3 hB4 x1 x2 x3 x4 hlt hlt3 H3 hbe
  go_wp2_with fail
  refine (awake _).mono ?_
  rintro e w5 ⟨rfl, hB5⟩
  have HB5 := Lib.hid (HB4.out.trans (hB5.mono HB4.out.size))
  clear hB5
  go_wp2
  go_ret
  exact ⟨rfl, HB5.out⟩
end Go.Proofs.YthadjopkfglecaaDoor.Lex
