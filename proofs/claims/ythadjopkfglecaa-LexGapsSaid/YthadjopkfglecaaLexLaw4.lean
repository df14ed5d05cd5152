/-
  The walk of the law LexGaps. By an AI agent.
-/
import Derived.Test.YthadjopkfglecaaLexAwake
import Derived.Test.YthadjopkfglecaaLexToken
import Derived.Test.YthadjopkfglecaaInts
import Derived.Test.YthadjopkfglecaaSkips
import Derived.Deep.RegionHeld3
import Derived.Deep.QuietTactic
import Derived.BigQuiet
import Derived.Deep.Draws
namespace Go.Proofs.Ythadjopkfglecaa.Lex
open Go.RowKit Go.Proofs.Ythadjopkfglecaa.Ints

theorem bytes_add (a b : List UInt8) : bytes (a ++ b) = bytes a ++ bytes b := by
  apply ByteArray.ext
  apply Array.toList_inj.1
  simp [bytes]
theorem bytes_size (a : List UInt8) : (bytes a).size = a.length := rfl
theorem bytes_list (a : List UInt8) : (bytes a).data.toList = a := rfl

section
variable (zs us : List Int) (m : Nat)
def nnOf (j : Nat) : Nat := (zs[j]?.getD 0).toNat
def gpOf (j : Nat) : List UInt8 := if j < m then gapOf (nnOf us j) else [32]
theorem gpOf_facts (j : Nat) : 1 ≤ (gpOf us m j).length ∧ (gpOf us m j).length ≤ 3 ∧ (∀ c ∈ gpOf us m j, blank c = true) ∧ ((gpOf us m j).head? = some 32 ∨ (gpOf us m j).head? = some 10) := by
  unfold gpOf
  split
  · exact gap_facts _
  · exact ⟨by decide, by decide, by decide, Or.inl rfl⟩
end

theorem gaps_keep {w4 w1 w2 : World} {b1 o1 o2 : Nat} {a : Addr} {x y z : Value} (hb : Below w1.heap.size w1 w2) (hlt : b1 < w4.heap.size) (h1 : w1.cell? ⟨b1, o1, none⟩ = some x) (h2 : w1.cell? ⟨b1, o2, none⟩ = some y) (h3 : w1.cell? a = some z) (hB : Below w4.heap.size w4 w1) :
    w2.cell? ⟨b1, o1, none⟩ = some x ∧ w2.cell? ⟨b1, o2, none⟩ = some y ∧ w2.cell? a = some z ∧ Below w4.heap.size w4 w2 :=
  ⟨keepc hb (Nat.lt_of_lt_of_le hlt hB.size) h1, keepc hb (Nat.lt_of_lt_of_le hlt hB.size) h2, (hb.cell (World.block_lt_of_cell? w1 a h3)).trans h3, hB.trans (hb.mono hB.size)⟩

set_option maxHeartbeats 8000000 in
set_option maxRecDepth 100000 in
theorem lawGaps (A1 A2 : Option Addr) (n c1 m c2 : Nat) (zs us : List Int) (w : World) (hn : n ≤ maxLen) (hm : m ≤ maxLen) (h1 : Rd .u8 w A1 n zs) (h2 : Rd .u8 w A2 m us) :
    Calls Try.prog 5 #[.slice A1 n c1, .slice A2 m c2] w fun e w' => e = .returned (.bool true) ∧ Below w.heap.size w w' := by
  by_cases hbig : 60 < n
  · have hb : (60 : Int) < (n : Int) := by omega
    have hni : (n : Int) ≤ 9223372036854775807 := by have : maxLen = 9223372036854775807 := rfl; omega
    clear hbig hn hm h1 h2
    go_enter Try.func5, Try.ntmps5
    go_wp2_with fail
    refine (awake _).mono ?_
    rintro e w1 ⟨rfl, hB⟩
    have HB := Lib.hid hB
    clear hB
    go_wp2
    go_ret
    exact ⟨rfl, HB.out⟩
  · have hb : (n : Int) ≤ 60 := by omega
    have hmi : (m : Int) ≤ 9223372036854775807 := by have : maxLen = 9223372036854775807 := rfl; omega
    have hz : ∀ j, j < n → zs[j]?.getD 0 = ((nnOf zs j : Nat) : Int) ∧ nnOf zs j ≤ 255 := fun j hj => by
      have := h1.u8 j hj
      unfold nnOf
      omega
    have hu : ∀ j, j < m → us[j]?.getD 0 = ((nnOf us j : Nat) : Int) ∧ nnOf us j ≤ 255 := fun j hj => by
      have := h2.u8 j hj
      unfold nnOf
      omega
    obtain ⟨nn, hnn⟩ : ∃ f, nnOf zs = f := ⟨_, rfl⟩
    rw [hnn] at hz
    have hgp := gpOf_facts us m
    have hgm : ∀ j, j < m → gpOf us m j = gapT.getD (nnOf us j % 5) [32] := fun j hj => by unfold gpOf gapOf; rw [if_pos hj]
    have hgn : ∀ j, ¬ j < m → gpOf us m j = [32] := fun j hj => by unfold gpOf; rw [if_neg hj]
    obtain ⟨gp, hgpe⟩ : ∃ f, gpOf us m = f := ⟨_, rfl⟩
    rw [hgpe] at hgp hgm hgn
    have HZ := Lib.hid hz
    have HU := Lib.hid hu
    have HGP := Lib.hid hgp
    have HGM := Lib.hid hgm
    have HGN := Lib.hid hgn
    have HR1 := Lib.hid h1
    have HR2 := Lib.hid h2
    have HN := Lib.hid (show n ≤ 60 by omega)
    clear hbig hn hm hz hu hgp hgm hgn h1 h2 hnn hgpe
    go_enter Try.func5, Try.ntmps5
    go_wp2
    go_loopw [5, 6, 23] (fun one wide i wr => ∃ k : Nat, k ≤ n ∧ i = .int .i64 k ∧ one = .string (bytes (text1 nn k)) ∧ wide = .string (bytes (text2 nn gp k)) ∧ Below w.heap.size w wr) (fun _ _ i _ => n - (intOf i).toNat)
    case atStart => exact ⟨0, Nat.zero_le _, rfl, rfl, rfl, Below.refl _ _⟩
    case round =>
      obtain ⟨k, hk, rfl, rfl, rfl, hB⟩ := hrel
      have HB := Lib.hid hB
      clear hB
      by_cases hkn : k < n
      · have hkn' : (k : Int) < (n : Int) := by omega
        obtain ⟨b, off, e, hc⟩ := (HR1.out.below HB.out).cell (by omega)
        have hcell := hc k hkn
        rw [(HZ.out k hkn).1] at hcell
        have HT := Lib.hid (fun W => token (nn k) W (HZ.out k hkn).2)
        obtain ⟨S1, hS1⟩ : ∃ S, bytes (text1 nn k) = S := ⟨_, rfl⟩
        obtain ⟨S2, hS2⟩ : ∃ S, bytes (text2 nn gp k) = S := ⟨_, rfl⟩
        obtain ⟨TK, hTK⟩ : ∃ S, bytes (pick (nn k)).1 = S := ⟨_, rfl⟩
        obtain ⟨G, hG⟩ : ∃ S, bytes (gp k) = S := ⟨_, rfl⟩
        have q1 : S1.size ≤ 360 := by rw [← hS1, bytes_size]; have := text1_len nn k; omega
        have q2 : S2.size ≤ 660 := by rw [← hS2, bytes_size]; have := text2_len nn gp (fun j => (HGP.out j).2.1) k; omega
        have q3 : TK.size ≤ 5 := by rw [← hTK, bytes_size]; exact (pick_facts (nn k)).2.1
        have q4 : G.size ≤ 3 := by rw [← hG, bytes_size]; exact (HGP.out k).2.1
        have HX1 := Lib.hid (show S1 ++ (TK ++ { data := #[32] }) = bytes (text1 nn (k + 1)) by rw [text1_snoc, bytes_add, bytes_add, hS1, hTK]; rfl)
        have HX2 := Lib.hid (show S2 ++ (G ++ TK ++ G) = bytes (text2 nn gp (k + 1)) by rw [text2_snoc, bytes_add, bytes_add, bytes_add, hS2, hTK, hG])
        have HG := Lib.hid hG
        rw [hS1, hS2]
        rw [hTK] at HT
        clear hS1 hS2 hTK hG hc
        subst e
        by_cases hkm : k < m
        · have hkm' : (k : Int) < (m : Int) := by omega
          obtain ⟨b2, off2, e2, hc2⟩ := ((HR2.out.below HB.out).alloc (.cells #[.string { data := #[32] }, .string { data := #[10] }, .string { data := #[32, 32] }, .string { data := #[32, 10, 32] }, .string { data := #[10, 10] }] 9)).cell (by omega)
          have hcell2 := hc2 k hkm
          rw [(HU.out k hkm).1] at hcell2
          obtain ⟨x, hx⟩ : ∃ x, nnOf us k = x := ⟨_, rfl⟩
          obtain ⟨r, hr⟩ : ∃ r, x % 5 = r := ⟨_, rfl⟩
          have hx5 : ((x : Int) % 5) = (r : Int) := by omega
          have hr5 : (r : Int) < 5 := by omega
          have hxb : (x : Int) ≤ 255 := by have := (HU.out k hkm).2; omega
          have hc5 := (cell_of_row _ wr.heap.size r _ 9 (0, 0) (heap_alloc_new wr _)).trans (gap_cells r (by omega))
          have hge := HGM.out k hkm
          rw [hx, hr] at hge
          rw [← hge, HG.out] at hc5
          rw [hx] at hcell2
          clear hc2 hx hr hge
          subst e2
          --TAIL
          have HBA := Lib.hid (HB.out.alloc HB.out.size (.cells #[.string { data := #[32] }, .string { data := #[10] }, .string { data := #[32, 32] }, .string { data := #[32, 10, 32] }, .string { data := #[10, 10] }] 9))
          go_wp2_with fail
          refine (HT.out _).mono ?_
          rintro e w1 ⟨rfl, hB1⟩
          have HB1 := Lib.hid (HBA.out.trans (hB1.mono HBA.out.size))
          clear hB1
          go_wp2_with fail
          refine (HT.out _).mono ?_
          rintro e w2 ⟨rfl, hB2⟩
          have HB2 := Lib.hid (HB1.out.trans (hB2.mono HB1.out.size))
          clear hB2
          go_wp2
          go_roundw
          case rel => exact ⟨k + 1, by omega, by go_num, congrArg Value.string HX1.out, congrArg Value.string HX2.out, HB2.out⟩
          case measure => simp [intOf]; omega
        · have hkm' : decide ((k : Int) < (m : Int)) = false := by simp; omega
          have hge := HGN.out k hkm
          have hG32 : G = { data := #[32] } := by rw [← HG.out, hge]; rfl
          subst hG32
          clear hge
          go_wp2_with fail
          refine (HT.out _).mono ?_
          rintro e w1 ⟨rfl, hB1⟩
          have HB1 := Lib.hid (HB.out.trans (hB1.mono HB.out.size))
          clear hB1
          go_wp2_with fail
          refine (HT.out _).mono ?_
          rintro e w2 ⟨rfl, hB2⟩
          have HB2 := Lib.hid (HB1.out.trans (hB2.mono HB1.out.size))
          clear hB2
          go_wp2
          go_roundw
          case rel => exact ⟨k + 1, by omega, by go_num, congrArg Value.string HX1.out, congrArg Value.string HX2.out, HB2.out⟩
          case measure => simp [intOf]; omega
      · have e : k = n := by omega
        subst e
        have hge : decide ((k : Int) < (k : Int)) = false := by simp
        obtain ⟨K1, l1, n1, a1, z1⟩ := lex1 nn k HN.out
        obtain ⟨K2, l2, n2, a2, z2⟩ := lex2 nn gp k HN.out HGP.out
        have g1 := fun W => progLex (bytes (text1 nn k)) W (by rw [bytes_size]; have := text1_len nn k; have := HN.out; have : maxLen = 9223372036854775807 := rfl; omega)
        have g2 := fun W => progLex (bytes (text2 nn gp k)) W (by rw [bytes_size]; have := text2_len nn gp (fun j => (HGP.out j).2.1) k; have := HN.out; have : maxLen = 9223372036854775807 := rfl; omega)
        rw [bytes_list, l1] at g1
        rw [bytes_list, l2] at g2
        have G1 := Lib.hid g1
        have G2 := Lib.hid g2
        have HA1 := Lib.hid a1
        have HA2 := Lib.hid a2
        have HE1 := Lib.hid z1
        have HE2 := Lib.hid z2
        have HL1 := Lib.hid n1
        have HL2 := Lib.hid n2
        obtain ⟨S1, hS1⟩ : ∃ S, bytes (text1 nn k) = S := ⟨_, rfl⟩
        obtain ⟨S2, hS2⟩ : ∃ S, bytes (text2 nn gp k) = S := ⟨_, rfl⟩
        rw [hS1] at G1
        rw [hS2] at G2
        rw [hS1, hS2]
        have HS1 := Lib.hid hS1
        have e1 : wrap64 ((k : Int) + 1) = (k : Int) + 1 := IntWalk.wrap64_in _ (by omega)
        clear l1 l2 n1 n2 a1 a2 z1 z2 g1 g2 hS1 hS2
        go_wp2_with fail
        refine (G1.out _).mono ?_
        rintro e w3 ⟨u1, rfl, t1, hB3⟩
        have HB3 := Lib.hid (HB.out.trans (hB3.mono HB.out.size))
        clear hB3
        go_wp2_with fail
        refine (G2.out _).mono ?_
        rintro e w4 ⟨u2, rfl, t2, hB4⟩
        have HB4 := Lib.hid (HB3.out.trans (hB4.mono HB3.out.size))
        obtain ⟨B1, d1, rfl, hlt1, k1⟩ := t1.keep hB4
        obtain ⟨B2, d2, rfl, hlt2, k2⟩ := t2
        rw [HL1.out] at k1 ⊢
        rw [HL2.out] at k2 ⊢
        obtain ⟨b1, rfl, j1⟩ := k1 (by omega)
        obtain ⟨b2, rfl, j2⟩ := k2 (by omega)
        have HK1 := Lib.hid j1
        have HK2 := Lib.hid j2
        have HLT1 := Lib.hid (show b1 < w4.heap.size from hlt1 _ rfl)
        have HLT2 := Lib.hid (show b2 < w4.heap.size from hlt2 _ rfl)
        have HBW := Lib.hid (HB3.out.trans (hB4.mono HB3.out.size))
        clear hB4 hlt1 hlt2 k1 k2 t1
        go_wp2
        go_loopw [90] (fun i wv => ∃ q : Nat, q ≤ k + 1 ∧ i = .int .i64 q ∧ Below w4.heap.size w4 wv) (fun i _ => k + 1 - (intOf i).toNat)
        case atStart => exact ⟨0, Nat.zero_le _, rfl, Below.refl _ _⟩
        case round =>
          obtain ⟨q, hq, rfl, hB⟩ := hrel
          have HBV := Lib.hid hB
          clear hB
          by_cases hqk : q < k + 1
          · have hqk' : (q : Int) < (k : Int) + 1 := by omega
            by_cases hqn : q < k
            · have hqn' : (q : Int) < (k : Int) := by omega
              obtain ⟨x1, x2, x3, x4⟩ := HK1.out q _ (HA1.out q hqn)
              obtain ⟨x5, x6, x7, x8⟩ := HK2.out q _ (HA2.out q hqn)
              obtain ⟨b, off, e, hc⟩ := (((HR1.out.below HBW.out)).below HBV.out).cell (by omega)
              have y9 := hc q hqn
              rw [(HZ.out q hqn).1] at y9
              have y1 := keepc HBV.out HLT1.out x1
              have y2 := keepc HBV.out HLT1.out x2
              have y3 := keepc HBV.out HLT1.out x3
              have y4 := keepc HBV.out HLT1.out x4
              have y5 := keepc HBV.out HLT2.out x5
              have y6 := keepc HBV.out HLT2.out x6
              have y7 := keepc HBV.out HLT2.out x7
              have y8 := keepc HBV.out HLT2.out x8
              rw [Nat.mul_comm 4 q] at y1 y2 y3 y4 y5 y6 y7 y8
              have HT := Lib.hid (fun W => token (nn q) W (HZ.out q hqn).2)
              obtain ⟨r, hr⟩ := text1_mono nn q k (by omega)
              have hsz : S1.size = (text1 nn k).length := by rw [← HS1.out, bytes_size]
              have hS60 : S1.size ≤ 360 := by rw [hsz]; have := text1_len nn k; have := HN.out; omega
              have hpart := text1_part nn q k hqn
              have hlen3 : (text1 nn q).length + (pick (nn q)).1.length ≤ S1.size := by
                have := congrArg List.length hpart
                rw [List.length_take, List.length_drop] at this
                rw [hsz]
                have := (pick_facts (nn q)).1
                omega
              have hp12 : (text1 nn q).length ≤ (text2 nn gp q).length + (gp q).length := by
                have := text_le nn gp (fun j => (HGP.out j).1) q
                omega
              have hx3 : S1.extract (text1 nn q).length ((text1 nn q).length + (pick (nn q)).1.length) = bytes (pick (nn q)).1 := by
                rw [← HS1.out, extract_bytes _ _ _ _ rfl, bytes_list, hpart]
              have hkd := (pick_facts (nn q)).2.2
              obtain ⟨TK, hTK⟩ : ∃ X, bytes (pick (nn q)).1 = X := ⟨_, rfl⟩
              have hTs : TK.size = (pick (nn q)).1.length := by rw [← hTK, bytes_size]
              rw [← hTs] at hlen3 hx3
              rw [hTK] at hx3 HT
              obtain ⟨kd, hkde⟩ : ∃ x, (pick (nn q)).2.1 = x := ⟨_, rfl⟩
              obtain ⟨tx, htx⟩ : ∃ x, (pick (nn q)).2.2.1 = x := ⟨_, rfl⟩
              obtain ⟨nm, hnm⟩ : ∃ x, (pick (nn q)).2.2.2 = x := ⟨_, rfl⟩
              obtain ⟨p1, hp1⟩ : ∃ x, (text1 nn q).length = x := ⟨_, rfl⟩
              obtain ⟨p2, hp2⟩ : ∃ x, (text2 nn gp q).length + (gp q).length = x := ⟨_, rfl⟩
              obtain ⟨nv, hnv⟩ : ∃ x, nn q = x := ⟨_, rfl⟩
              have hnv5 : nv ≤ 255 := by rw [← hnv]; exact (HZ.out q hqn).2
              rw [hkde] at y1 y5 hkd
              rw [htx] at y2 y6
              rw [hnm] at y3 y7
              rw [hp1] at y4 hlen3 hx3 hp12
              rw [hp2] at y8 hp12
              rw [hnv] at y9 HT
              obtain ⟨p3, hp3⟩ : ∃ x, p1 + TK.size = x := ⟨_, rfl⟩
              rw [hp3] at hlen3 hx3
              have h13 : p1 ≤ p3 := hp3 ▸ Nat.le_add_right _ _
              have f1 : ((kd : Int) == 0) = false := beq_eq_false_iff_ne.2 (fun h => hkd (Int.natCast_eq_zero.1 h))
              have f2 : decide ((S1.size : Int) < (p1 : Int)) = false := decide_eq_false (Int.not_lt.2 (Int.ofNat_le.2 (Nat.le_trans h13 hlen3)))
              have f3 : decide ((p2 : Int) < (p1 : Int)) = false := decide_eq_false (Int.not_lt.2 (Int.ofNat_le.2 hp12))
              have f4 := add64 hp3 (Nat.le_trans hlen3 (Nat.le_trans hS60 (by decide)))
              have f5 : (p1 : Int) ≤ (p3 : Int) := Int.ofNat_le.2 h13
              have f6 : (p3 : Int) ≤ (S1.size : Int) := Int.ofNat_le.2 hlen3
              have f7 : (0 : Int) ≤ (p1 : Int) := Int.natCast_nonneg _
              have f8 : decide (S1.size < p1) = false := decide_eq_false (Nat.not_lt.2 (Nat.le_trans h13 hlen3))
              have f9 : decide (p2 < p1) = false := decide_eq_false (Nat.not_lt.2 hp12)
              subst e
              clear x1 x2 x3 x4 x5 x6 x7 x8 hc hr hsz hS60 hpart hp12 hkd hTK hTs hkde htx hnm hp1 hp2 hnv hp3
              go_wp2
              go_quiet (fail)
              go_wp2
              have z1 : (wr.drewN nq).cell? ⟨b1, q * 4, none⟩ = some (.int .i64 (kd : Int)) := by simpa using y1
              have z4 : (wr.drewN nq).cell? ⟨b1, q * 4 + 3, none⟩ = some (.int .i64 (p1 : Int)) := by simpa using y4
              have z9 : (wr.drewN nq).cell? ⟨b, off + q, none⟩ = some (.int .u8 (nv : Int)) := by simpa using y9
              have HY := Lib.hid (below_drewN HBV.out nq)
              clear y1 y2 y3 y4 y5 y6 y7 y8 y9
              generalize wr.drewN nq = w5 at *
              go_region_held3 (fun w' => w'.cell? ⟨b1, q * 4, none⟩ = some (.int .i64 (kd : Int)) ∧ w'.cell? ⟨b1, q * 4 + 3, none⟩ = some (.int .i64 (p1 : Int)) ∧ w'.cell? ⟨b, off + q, none⟩ = some (.int .u8 (nv : Int)) ∧ Below w4.heap.size w4 w')
                (first
                  | exact ⟨z1, z4, z9, HY.out⟩
                  | exact ⟨z1, z4, z9, HY.out.drew⟩
                  | (go_split_ands; exact gaps_keep hb5 HLT1.out (by assumption) (by assumption) (by assumption) (by assumption))
                  | fail)
                (first | (go_at_call 13; with_reducible (refine (HT.out _).mono ?_); rintro e w' ⟨rfl, hb5⟩))
              go_split_ands
              have HBE := Lib.hid (show Below w4.heap.size w4 w' by assumption)
              go_wp2
              go_roundw
              case rel => exact ⟨q + 1, by omega, by go_num, HBE.out⟩
              case measure => first | (simp [intOf]; done) | (simp [intOf]; omega)
            · have e : q = k := by omega
              subst e
              obtain ⟨x1, x2, x3, x4⟩ := HK1.out q _ HE1.out
              obtain ⟨x5, x6, x7, x8⟩ := HK2.out q _ HE2.out
              have y1 := keepc HBV.out HLT1.out x1
              have y2 := keepc HBV.out HLT1.out x2
              have y3 := keepc HBV.out HLT1.out x3
              have y4 := keepc HBV.out HLT1.out x4
              have y5 := keepc HBV.out HLT2.out x5
              have y6 := keepc HBV.out HLT2.out x6
              have y7 := keepc HBV.out HLT2.out x7
              have y8 := keepc HBV.out HLT2.out x8
              rw [Nat.mul_comm 4 q] at y1 y2 y3 y4 y5 y6 y7 y8
              have hsz : (text1 nn q).length = S1.size := by rw [← HS1.out, bytes_size]
              have hp12 : (text1 nn q).length ≤ (text2 nn gp q).length := text_le nn gp (fun j => (HGP.out j).1) q
              rw [hsz] at y4 hp12
              obtain ⟨p2, hp2⟩ : ∃ x, (text2 nn gp q).length = x := ⟨_, rfl⟩
              rw [hp2] at y8 hp12
              have hb0 : bytes [] = { data := #[] } := rfl
              rw [hb0] at y2 y6
              have f3 : decide ((p2 : Int) < (S1.size : Int)) = false := decide_eq_false (Int.not_lt.2 (Int.ofNat_le.2 hp12))
              have f9 : decide (p2 < S1.size) = false := decide_eq_false (Nat.not_lt.2 hp12)
              simp only [Int.natCast_zero] at y1 y3 y5 y7
              clear x1 x2 x3 x4 x5 x6 x7 x8 hsz hp12 hp2 hb0
              go_wp2
              go_quiet (fail)
              go_wp2
              go_quiet (fail)
              go_wp2
              go_roundw
              case rel => exact ⟨q + 1, by omega, by go_num, below_drewN HBV.out _⟩
              case measure => first | (simp [intOf]; done) | (simp [intOf]; omega)
          · have e : q = k + 1 := by omega
            subst e
            obtain ⟨x1, x2, x3, x4⟩ := HK1.out k _ HE1.out
            have y1 := keepc HBV.out HLT1.out x1
            have y4 := keepc HBV.out HLT1.out x4
            rw [Nat.mul_comm 4 k] at y1 y4
            have hsz : (text1 nn k).length = S1.size := by rw [← HS1.out, bytes_size]
            rw [hsz] at y4
            simp only [Int.natCast_zero] at y1
            have hge3 : decide (((k + 1 : Nat) : Int) < (k : Int) + 1) = false := decide_eq_false (by omega)
            have HBX := Lib.hid (HBW.out.trans (HBV.out.mono HBW.out.size))
            clear x1 x2 x3 x4 hsz
            go_wp2_with fail
            refine (awake _).mono ?_
            rintro e w7 ⟨rfl, hB7⟩
            have HB7 := Lib.hid (HBX.out.trans (hB7.mono HBX.out.size))
            clear hB7
            go_wp2
            go_ret
            exact ⟨rfl, HB7.out⟩
end Go.Proofs.Ythadjopkfglecaa.Lex
