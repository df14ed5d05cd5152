/-
  The walk of the law LexEnds. By an AI agent.
-/
import Derived.Test.YthadjopkfglecaaLexAwake
import Derived.Test.YthadjopkfglecaaLexProgN
import Derived.Test.YthadjopkfglecaaInts
namespace Go.Proofs.Ythadjopkfglecaa.Lex
open Go.RowKit Go.Proofs.Ythadjopkfglecaa.Ints

theorem infoB : (Try.prog.info? 5).map (fun i => (i.zero, i.size, i.bytes)) = some (some (.int .u8 0), 1, 1) := by kernel_rfl
/-- A row of k bytes of which the first i are laid. -/
def part8 (k i : Nat) (f : Nat → Int) : List Int := (List.range k).map fun j => if j < i then f j else 0
theorem part8_len (k i : Nat) (f : Nat → Int) : (part8 k i f).length = k := by simp [part8]
theorem part8_made (k : Nat) (f : Nat → Int) : (madeCells (Value.int .u8 0).cells (k * 1)).toList = (part8 k 0 f).map (Value.int .u8) := by
  rw [Nat.mul_one]
  apply List.ext_getElem
  · simp [madeCells, part8]
  · intro i h1 h2
    have e : (Value.int .u8 0).cells = #[Value.int .u8 0] := rfl
    simp [madeCells, part8, e, Nat.mod_one]
theorem part8_set (k i : Nat) (f : Nat → Int) : (part8 k i f).set i (f i) = part8 k (i + 1) f := by
  apply List.ext_getElem
  · simp [part8]
  · intro j h1 h2
    simp only [part8, List.getElem_set, List.getElem_map, List.getElem_range]
    by_cases h : i = j
    · subst h
      rw [if_pos rfl, if_pos (by omega)]
    · rw [if_neg h]
      by_cases h3 : j < i
      · rw [if_pos h3, if_pos (by omega)]
      · rw [if_neg h3, if_neg (by omega)]
theorem part8_wf (k i : Nat) (f : Nat → Int) (h : ∀ j, 0 ≤ f j ∧ f j ≤ 255) : ∀ z ∈ part8 k i f, (Lit.int .u8 z).wf = true := by
  intro z hz
  obtain ⟨j, -, rfl⟩ := List.mem_map.1 hz
  apply u8_wf
  split
  · exact h j
  · omega
theorem part8_bytes (k : Nat) (f : Nat → Int) : (strOfNums (part8 k k f)).data.toList = (List.range k).map fun j => UInt8.ofNat (f j).toNat := by
  rw [strOfNums_data, part8, List.map_map]
  apply List.map_congr_left
  intro j hj
  simp only [List.mem_range] at hj
  simp [hj]
theorem str_conv {W : World} {A : Option Addr} {n c : Nat} {zs : List Int} (h : Rd .u8 W A n zs) : (convert 31 9 (.slice A n c)).run Try.prog W = .ok (.string (strOfNums zs)) W :=
  run_str _ _ _ Try.underlying31 Try.underlying5 Try.underlying9 h

def letter (l j : Nat) : Int := ((97 + (j + l) % 26 : Nat) : Int)
theorem ends_blank (k : Nat) : lexS (strOfNums (part8 k k fun _ => 32)).data.toList = if 2000 < k then ([], 0, 4) else ([⟨0, [], 0, k⟩], 0, 0) := by
  rw [part8_bytes, lex_blanks]
  · simp
  · intro c hc
    obtain ⟨j, -, rfl⟩ := List.mem_map.1 hc
    rfl
theorem ends_word (m l : Nat) (h1 : 12 ≤ m) (h2 : m ≤ 20) :
    (m ≤ 16 → ∃ x, lexS (strOfNums (part8 m m (letter l))).data.toList = ([x, ⟨0, [], 0, m⟩], 0, 0) ∧ nameS (strOfNums (part8 m m (letter l))).data.toList = true) ∧
    (16 < m → lexS (strOfNums (part8 m m (letter l))).data.toList = ([], 0, 2) ∧ nameS (strOfNums (part8 m m (letter l))).data.toList = false) := by
  rw [part8_bytes]
  have h := lex_letters (s := (List.range m).map fun j => UInt8.ofNat (letter l j).toNat) (fun c hc => by
    obtain ⟨j, -, rfl⟩ := List.mem_map.1 hc
    have e : (UInt8.ofNat (letter l j).toNat).toNat = 97 + (j + l) % 26 := by
      rw [UInt8.toNat_ofNat']
      simp only [letter, Int.toNat_natCast]
      omega
    simp only [small, decide_eq_true_eq, e]
    omega) (by simpa using h1) (by simp; omega)
  simp only [List.length_map, List.length_range] at h
  exact ⟨fun h16 => ⟨_, (h.1 h16).1, (h.1 h16).2⟩, h.2⟩

set_option maxHeartbeats 8000000 in
set_option maxRecDepth 100000 in
theorem lawEnds (n l : Nat) (w : World) (hn : n ≤ 255) (hl : l ≤ 255) :
    Calls Try.prog 6 #[.int .u8 (n : Int), .int .u8 (l : Int)] w fun e w' => e = .returned (.bool true) ∧ Below w.heap.size w w' := by
  obtain ⟨i0, hi, hz0, hz1, hz2⟩ := info_parts infoB
  obtain ⟨a, ha⟩ : ∃ a, n % 7 = a := ⟨_, rfl⟩
  obtain ⟨d, hd⟩ : ∃ d, l % 9 = d := ⟨_, rfl⟩
  obtain ⟨K, hK⟩ : ∃ K, 1997 + a = K := ⟨_, rfl⟩
  obtain ⟨M, hM⟩ : ∃ M, 12 + d = M := ⟨_, rfl⟩
  have c1 : ((n : Int) % 7) = (a : Int) := by omega
  have c2 : ((l : Int) % 9) = (d : Int) := by omega
  have c3 : (1997 : Int) + (a : Int) = (K : Int) := by omega
  have c4 : (12 : Int) + (d : Int) = (M : Int) := by omega
  have hKb : 1997 ≤ K ∧ K ≤ 2003 := by omega
  have hMb : 12 ≤ M ∧ M ≤ 20 := by omega
  have hKi : (K : Int) ≤ 2003 := by omega
  have hMi : (M : Int) ≤ 20 := by omega
  have hK0 : (0 : Int) ≤ (K : Int) := by omega
  have q1 : i0.bytes * K ≤ 281474976710656 := by rw [hz2]; omega
  have q2 : K ≤ maxLen := by unfold maxLen; omega
  have q3 : i0.bytes * M ≤ 281474976710656 := by rw [hz2]; omega
  have q4 : M ≤ maxLen := by unfold maxLen; omega
  have HKB := Lib.hid hKb
  have HMB := Lib.hid hMb
  clear ha hd hK hM hKb hMb
  have hn' : (n : Int) ≤ 255 := by omega
  have hl' : (l : Int) ≤ 255 := by omega
  go_enter Try.func6, Try.ntmps6
  go_wp2_with (at_make; refine wpList_make_full _ rfl _ _ 31 rfl w.heap.size 5 i0 (.int .u8 0) 1 Try.underlying31 hi hz0 hz1 .i64 .i64 _ _ K rfl rfl (by first | rfl | omega) (by first | rfl | omega) q1 q2 (Nat.le_refl _) ?_; intro w1 hmade hgr1; rw [part8_made K (fun _ => 32)] at hmade)
  have hB1 : Below w.heap.size w w1 := (Below.refl _ _).grown hgr1 (Nat.le_refl _) (by simp)
  clear hgr1
  go_loopw [24] (fun i wr => ∃ j : Nat, j ≤ K ∧ i = .int .i64 j ∧ wr.ownsRow w.heap.size 5 1 (.slice (some ⟨w.heap.size, 0, none⟩) K K) K ((part8 K j fun _ => 32).map (Value.int .u8)) ∧ Below w.heap.size w wr) (fun i _ => K - (intOf i).toNat)
  case atStart => exact ⟨0, Nat.zero_le _, rfl, hmade, hB1⟩
  case round =>
    obtain ⟨j, hj, rfl, hrow, hB⟩ := hrel
    clear hmade hB1
    by_cases h0 : j < K
    · have hj0 : (j : Int) < (K : Int) := by omega
      have hc1 := own_cell hrow h0
      have hc2 := hrow.frozenAt j
      have HR := Lib.hid hrow
      have HB := Lib.hid hB
      clear hrow hB
      go_wp2
      go_roundw
      case rel =>
        refine ⟨j + 1, by omega, by go_num, ?_, HB.out.setCell (Nat.le_refl _) _⟩
        have := own_set HR.out j 32
        rwa [part8_set K j (fun _ => 32)] at this
      case measure => simp [intOf]; omega
    · have e : j = K := by omega
      subst e
      have hge : ¬ ((j : Nat) : Int) < (j : Int) := by omega
      have HR := Lib.hid hrow
      have HB := Lib.hid hB
      clear hrow hB
      go_wp2_with (at_make; refine wpList_make_full _ rfl _ _ 31 rfl wr.heap.size 5 i0 (.int .u8 0) 1 Try.underlying31 hi hz0 hz1 .i64 .i64 _ _ M rfl rfl (by first | rfl | omega) (by first | rfl | omega) q3 q4 (Nat.le_refl _) ?_; intro w2 hmade hgr2; rw [part8_made M (letter l)] at hmade)
      have hB2 : Below wr.heap.size wr w2 := (Below.refl _ _).grown hgr2 (Nat.le_refl _) (by simp)
      have HRD := Lib.hid (Rd.own HR.out (part8_wf j j _ (fun _ => by decide)))
      clear hgr2
      go_loopw [38] (fun i wv => ∃ q : Nat, q ≤ M ∧ i = .int .i64 q ∧ wv.ownsRow wr.heap.size 5 1 (.slice (some ⟨wr.heap.size, 0, none⟩) M M) M ((part8 M q (letter l)).map (Value.int .u8)) ∧ Below wr.heap.size wr wv) (fun i _ => M - (intOf i).toNat)
      case atStart => exact ⟨0, Nat.zero_le _, rfl, hmade, hB2⟩
      case round =>
        obtain ⟨q, hq, rfl, hrow2, hB3⟩ := hrel
        clear hmade hB2
        by_cases h1 : q < M
        · have hq0 : (q : Int) < (M : Int) := by omega
          have hc1 := own_cell hrow2 h1
          have hc2 := hrow2.frozenAt q
          have HR2 := Lib.hid hrow2
          have HB3 := Lib.hid hB3
          clear hrow2 hB3
          go_wp2
          go_roundw
          case rel =>
            refine ⟨q + 1, by omega, by go_num, ?_, HB3.out.setCell (Nat.le_refl _) _⟩
            have := own_set HR2.out q (letter l q)
            rw [part8_set M q (letter l)] at this
            rw [show letter l q = 97 + ((q : Int) + (l : Int)) % 26 by unfold letter; omega] at this
            exact this
          case measure =>
            simp [intOf]; omega
        · have e : q = M := by omega
          subst e
          have HRD2 := Lib.hid (Rd.own hrow2 (part8_wf q q (letter l) (fun i => by unfold letter; omega)))
          have HRD1 := Lib.hid (HRD.out.below hB3)
          have HB3 := Lib.hid (HB.out.trans (hB3.mono HB.out.size))
          have hge2 : ¬ ((q : Nat) : Int) < (q : Int) := by omega
          have HS1 := Lib.hid (show (strOfNums (part8 j j fun _ => 32)).size ≤ maxLen by rw [strOfNums_size, part8_len]; exact q2)
          have HS2 := Lib.hid (show (strOfNums (part8 q q (letter l))).size ≤ maxLen by rw [strOfNums_size, part8_len]; exact q4)
          have HE1 := Lib.hid (ends_blank j)
          have HE2 := Lib.hid (ends_word q l HMB.out.1 HMB.out.2)
          obtain ⟨S1, hS1⟩ : ∃ S, strOfNums (part8 j j fun _ => 32) = S := ⟨_, rfl⟩
          obtain ⟨S2, hS2⟩ : ∃ S, strOfNums (part8 q q (letter l)) = S := ⟨_, rfl⟩
          have HCV1 := Lib.hid (fun W (hW : Rd .u8 W (some ⟨w.heap.size, 0, none⟩) j (part8 j j fun _ => 32)) => str_conv (c := j) hW)
          have HCV2 := Lib.hid (fun W (A : Option Addr) (hW : Rd .u8 W A q (part8 q q (letter l))) => str_conv (c := q) hW)
          rw [hS1] at HS1 HE1 HCV1
          rw [hS2] at HS2 HE2 HCV2
          have h1L := fun W => progLex S1 W HS1.out
          have h2L := fun W => progLex S2 W HS2.out
          have h2N := fun W => progName S2 W HS2.out
          rw [HE1.out] at h1L
          clear hS1 hS2 hrow2 hB3 HR HB HS1 HS2 HE1
          by_cases hk : j ≤ 2000
          · have hk' : (j : Int) ≤ 2000 := by omega
            rw [if_neg (by omega)] at h1L
            by_cases hm : q ≤ 16
            · have hm' : (q : Int) ≤ 16 := by omega
              obtain ⟨x, x1, x2⟩ := HE2.out.1 hm
              rw [x1] at h2L
              rw [x2] at h2N
              have H1L := Lib.hid h1L
              have H2L := Lib.hid h2L
              have H2N := Lib.hid h2N
              have v1 := HCV1.out _ HRD1.out
              clear h1L h2L h2N x1 x2 HE2 hk hm
              go_wp2_with fail
              refine (H1L.out _).mono ?_
              rintro e w4 ⟨u1, rfl, t1, hB4⟩
              have HRD3 := Lib.hid (HRD2.out.below hB4)
              have HB4 := Lib.hid (HB3.out.trans (hB4.mono HB3.out.size))
              clear hB4 v1
              have v2 := HCV2.out _ _ HRD3.out
              obtain ⟨b1, cc1, rfl, hlt, k1⟩ := toks_some t1
              obtain ⟨-, -, -, x4⟩ := k1 0 _ rfl
              clear t1 k1
              go_wp2_with fail
              refine (H2L.out _).mono ?_
              rintro e w5 ⟨u2, rfl, t2, hB5⟩
              have y4 : w5.cell? ⟨b1, 3, none⟩ = some (.int .i64 (j : Int)) := keepc hB5 hlt x4
              clear x4 hlt
              have HRD4 := Lib.hid (HRD3.out.below hB5)
              have HB5 := Lib.hid (HB4.out.trans (hB5.mono HB4.out.size))
              clear hB5 v2
              have v3 := HCV2.out _ _ HRD4.out
              obtain ⟨b2, cc2, rfl, -, -⟩ := toks_some t2
              clear t2
              go_wp2_with fail
              refine (H2N.out _).mono ?_
              rintro e w6 ⟨rfl, hB6⟩
              have HB6 := Lib.hid (HB5.out.trans (hB6.mono HB5.out.size))
              clear hB6
              go_wp2_with fail
              refine (awake _).mono ?_
              rintro e w7 ⟨rfl, hB7⟩
              have HB7 := Lib.hid (HB6.out.trans (hB7.mono HB6.out.size))
              clear hB7
              go_wp2
              go_ret
              exact ⟨rfl, HB7.out⟩
            · have hm' : decide ((q : Int) ≤ 16) = false := by simp; omega
              obtain ⟨x1, x2⟩ := HE2.out.2 (by omega)
              rw [x1] at h2L
              rw [x2] at h2N
              have H1L := Lib.hid h1L
              have H2L := Lib.hid h2L
              have H2N := Lib.hid h2N
              have v1 := HCV1.out _ HRD1.out
              clear h1L h2L h2N x1 x2 HE2 hk hm
              go_wp2_with fail
              refine (H1L.out _).mono ?_
              rintro e w4 ⟨u1, rfl, t1, hB4⟩
              have HRD3 := Lib.hid (HRD2.out.below hB4)
              have HB4 := Lib.hid (HB3.out.trans (hB4.mono HB3.out.size))
              clear hB4 v1
              have v2 := HCV2.out _ _ HRD3.out
              obtain ⟨b1, cc1, rfl, hlt, k1⟩ := toks_some t1
              obtain ⟨-, -, -, x4⟩ := k1 0 _ rfl
              clear t1 k1
              go_wp2_with fail
              refine (H2L.out _).mono ?_
              rintro e w5 ⟨u2, rfl, t2, hB5⟩
              have y4 : w5.cell? ⟨b1, 3, none⟩ = some (.int .i64 (j : Int)) := keepc hB5 hlt x4
              clear x4 hlt
              have HRD4 := Lib.hid (HRD3.out.below hB5)
              have HB5 := Lib.hid (HB4.out.trans (hB5.mono HB4.out.size))
              clear hB5 v2
              have v3 := HCV2.out _ _ HRD4.out
              obtain ⟨A2, cc2, rfl⟩ := toks_nil t2
              clear t2
              go_wp2_with fail
              refine (H2N.out _).mono ?_
              rintro e w6 ⟨rfl, hB6⟩
              have HB6 := Lib.hid (HB5.out.trans (hB6.mono HB5.out.size))
              clear hB6
              go_wp2_with fail
              refine (awake _).mono ?_
              rintro e w7 ⟨rfl, hB7⟩
              have HB7 := Lib.hid (HB6.out.trans (hB7.mono HB6.out.size))
              clear hB7
              go_wp2
              go_ret
              exact ⟨rfl, HB7.out⟩
          · have hk' : decide ((j : Int) ≤ 2000) = false := by simp; omega
            rw [if_pos (by omega)] at h1L
            by_cases hm : q ≤ 16
            · have hm' : (q : Int) ≤ 16 := by omega
              obtain ⟨x, x1, x2⟩ := HE2.out.1 hm
              rw [x1] at h2L
              rw [x2] at h2N
              have H1L := Lib.hid h1L
              have H2L := Lib.hid h2L
              have H2N := Lib.hid h2N
              have v1 := HCV1.out _ HRD1.out
              clear h1L h2L h2N x1 x2 HE2 hk hm
              go_wp2_with fail
              refine (H1L.out _).mono ?_
              rintro e w4 ⟨u1, rfl, t1, hB4⟩
              have HRD3 := Lib.hid (HRD2.out.below hB4)
              have HB4 := Lib.hid (HB3.out.trans (hB4.mono HB3.out.size))
              clear hB4 v1
              have v2 := HCV2.out _ _ HRD3.out
              obtain ⟨A1, cc1, rfl⟩ := toks_nil t1
              clear t1
              go_wp2_with fail
              refine (H2L.out _).mono ?_
              rintro e w5 ⟨u2, rfl, t2, hB5⟩
              have HRD4 := Lib.hid (HRD3.out.below hB5)
              have HB5 := Lib.hid (HB4.out.trans (hB5.mono HB4.out.size))
              clear hB5 v2
              have v3 := HCV2.out _ _ HRD4.out
              obtain ⟨b2, cc2, rfl, -, -⟩ := toks_some t2
              clear t2
              go_wp2_with fail
              refine (H2N.out _).mono ?_
              rintro e w6 ⟨rfl, hB6⟩
              have HB6 := Lib.hid (HB5.out.trans (hB6.mono HB5.out.size))
              clear hB6
              go_wp2_with fail
              refine (awake _).mono ?_
              rintro e w7 ⟨rfl, hB7⟩
              have HB7 := Lib.hid (HB6.out.trans (hB7.mono HB6.out.size))
              clear hB7
              go_wp2
              go_ret
              exact ⟨rfl, HB7.out⟩
            · have hm' : decide ((q : Int) ≤ 16) = false := by simp; omega
              obtain ⟨x1, x2⟩ := HE2.out.2 (by omega)
              rw [x1] at h2L
              rw [x2] at h2N
              have H1L := Lib.hid h1L
              have H2L := Lib.hid h2L
              have H2N := Lib.hid h2N
              have v1 := HCV1.out _ HRD1.out
              clear h1L h2L h2N x1 x2 HE2 hk hm
              go_wp2_with fail
              refine (H1L.out _).mono ?_
              rintro e w4 ⟨u1, rfl, t1, hB4⟩
              have HRD3 := Lib.hid (HRD2.out.below hB4)
              have HB4 := Lib.hid (HB3.out.trans (hB4.mono HB3.out.size))
              clear hB4 v1
              have v2 := HCV2.out _ _ HRD3.out
              obtain ⟨A1, cc1, rfl⟩ := toks_nil t1
              clear t1
              go_wp2_with fail
              refine (H2L.out _).mono ?_
              rintro e w5 ⟨u2, rfl, t2, hB5⟩
              have HRD4 := Lib.hid (HRD3.out.below hB5)
              have HB5 := Lib.hid (HB4.out.trans (hB5.mono HB4.out.size))
              clear hB5 v2
              have v3 := HCV2.out _ _ HRD4.out
              obtain ⟨A2, cc2, rfl⟩ := toks_nil t2
              clear t2
              go_wp2_with fail
              refine (H2N.out _).mono ?_
              rintro e w6 ⟨rfl, hB6⟩
              have HB6 := Lib.hid (HB5.out.trans (hB6.mono HB5.out.size))
              clear hB6
              go_wp2_with fail
              refine (awake _).mono ?_
              rintro e w7 ⟨rfl, hB7⟩
              have HB7 := Lib.hid (HB6.out.trans (hB7.mono HB6.out.size))
              clear hB7
              go_wp2
              go_ret
              exact ⟨rfl, HB7.out⟩
end Go.Proofs.Ythadjopkfglecaa.Lex
