/-
  The walk of the law ParseOrder. By an AI agent.
-/
import Derived.Test.YtbljjmgmdcjocaaParseAwake
import Derived.Lib.MinMax
import Derived.RegionTactic
import Derived.ChangeAlike
import Derived.Deep.QuietTactic
import Derived.BigQuiet
import Derived.Deep.RegionLaw
import Derived.Deep.DrawnRows
import Derived.StillTailTactics
namespace Go.Proofs.Ytbljjmgmdcjocaa.Parse
open Go.RowKit Go.Proofs.Ytbljjmgmdcjocaa.Ints Go.Proofs.Ytbljjmgmdcjocaa.Lex Go.Proofs.Ytbljjmgmdcjocaa.Tree
attribute [local go_sem ↓] Go.wp_at_zero Go.wp_at_succ

def signsO : List (List UInt8) := [[45, 62], [124], [38], [115, 105, 110, 99, 101], [117, 110, 116, 105, 108]]
def kindsO : List Int := [7, 6, 5, 14, 15]
def orderText (i k : Nat) : List UInt8 := [112, 32] ++ signsO.getD i [] ++ [32, 113, 32] ++ signsO.getD k [] ++ [32, 114]
def nd0 : Nd := ⟨0, ⟨#[]⟩, 0, 0, []⟩
def orderOk (i k : Nat) : Bool := let x := parseS false (orderText i k)
  decide (x.2 = (0, 0)) && decide (x.1.map (·.kind) = if min i 3 < min k 3 then [3, 3, 3, kindsO.getD k 0, kindsO.getD i 0] else [3, 3, kindsO.getD i 0, 3, kindsO.getD k 0]) &&
    decide (x.1.map (·.name.data.toList) = if min i 3 < min k 3 then [[112], [113], [114], [], []] else [[112], [113], [], [114], []])
set_option maxRecDepth 100000 in
theorem order_all : (List.range 5).all (fun i => (List.range 5).all fun k => orderOk i k) = true := by decide +kernel
theorem order_ok {i k : Nat} (hi : i < 5) (hk : k < 5) : orderOk i k = true := by
  have h1 := List.all_eq_true.1 order_all i (List.mem_range.2 hi)
  exact List.all_eq_true.1 h1 k (List.mem_range.2 hk)
theorem order_get {i k : Nat} (hi : i < 5) (hk : k < 5) : ∃ l, parseS false (orderText i k) = (l, 0, 0) ∧ l.length = 5 ∧ l.map (·.kind) = (if min i 3 < min k 3 then [3, 3, 3, kindsO.getD k 0, kindsO.getD i 0] else [3, 3, kindsO.getD i 0, 3, kindsO.getD k 0]) ∧
    l.map (·.name.data.toList) = (if min i 3 < min k 3 then [[112], [113], [114], [], []] else [[112], [113], [], [114], []]) := by
  have := order_ok hi hk
  unfold orderOk at this
  simp only [Bool.and_eq_true, decide_eq_true_eq] at this
  obtain ⟨⟨h1, h2⟩, h3⟩ := this
  obtain ⟨l, e1, e2⟩ := out_split h1
  rw [e2] at h2 h3
  refine ⟨l, e1, ?_, h2, h3⟩
  have := congrArg List.length h2
  rw [List.length_map] at this
  rw [this]
  split <;> rfl
theorem undrewL {B n : Nat} {a w : World} (h : Below B (a.drewN n) w) : Below B a w := ⟨h.os, h.tape, h.output, h.size, h.block⟩
/-- The five nodes in memory. -/
theorem five {w : World} {A : Option Addr} {l : List Nd} (h : Nodes Any w A l) (hl : l.length = 5) {ks : List Int} {ns : List (List UInt8)} (hk : l.map (·.kind) = ks) (hn : l.map (·.name.data.toList) = ns) :
    ∃ b off, A = some ⟨b, off, none⟩ ∧ ∀ j, j < 5 → w.cell? ⟨b, off + j * 5, none⟩ = some (.int .i64 (ks.getD j 0)) ∧ w.cell? ⟨b, off + j * 5 + 1, none⟩ = some (.string (Lex.bytes (ns.getD j []))) := by
  obtain ⟨b, off, e, hc⟩ := Nodes.kind h (by omega)
  refine ⟨b, off, e, fun j hj => ?_⟩
  have hj' : j < l.length := by omega
  obtain ⟨h1, h2⟩ := hc j _ (List.getElem?_eq_getElem hj')
  subst hk; subst hn
  simp only [List.getD_eq_getElem?_getD, List.getElem?_map, List.getElem?_eq_getElem hj', Option.map_some, Option.getD_some]
  exact ⟨h1, by rw [h2]; congr 2⟩

theorem signs_at : ∀ i : Nat, i < 5 → [Value.string { data := #[45, 62] }, .string { data := #[124] }, .string { data := #[38] }, .string { data := #[115, 105, 110, 99, 101] }, .string { data := #[117, 110, 116, 105, 108] }][i]? = some (.string (Lex.bytes (signsO.getD i []))) := by
  intro i hi
  match i, hi with
  | 0, _ | 1, _ | 2, _ | 3, _ | 4, _ => rfl
theorem kinds_at : ∀ i : Nat, i < 5 → [Value.int .i64 7, .int .i64 6, .int .i64 5, .int .i64 14, .int .i64 15][i]? = some (.int .i64 (kindsO.getD i 0)) := by
  intro i hi
  match i, hi with
  | 0, _ | 1, _ | 2, _ | 3, _ | 4, _ => rfl
theorem signs_len : ∀ i, i < 5 → (signsO.getD i []).length ≤ 5 := by decide
theorem kinds_ne : ∀ i, i < 5 → ∀ k, k < 5 → min i 3 < min k 3 → (kindsO.getD i 0 == kindsO.getD k 0) = false := by decide
theorem order_str (i k : Nat) : (({ data := #[112, 32] } : ByteArray) ++ Lex.bytes (signsO.getD i []) ++ { data := #[32, 113, 32] } ++ Lex.bytes (signsO.getD k []) ++ { data := #[32, 114] }).data.toList = orderText i k := by
  unfold orderText
  simp [Lex.bytes]

set_option maxHeartbeats 16000000 in
set_option maxRecDepth 100000 in
theorem lawOrderNo (a b : Int) (i k : Nat) (w : World) (ha0 : 0 ≤ a) (ha1 : a ≤ 255) (hb0 : 0 ≤ b) (hb1 : b ≤ 255) (ha : a % 5 = (i : Int)) (hb : b % 5 = (k : Int)) (hlt : ¬ min i 3 < min k 3) :
    Calls Try.prog 4 #[.int .u8 a, .int .u8 b] w fun e w' => e = .returned (.bool true) ∧ Below w.heap.size w w' := by
  have HA := Lib.hid (fun W => awake W)
  have hta : a.tmod 5 = (i : Int) := by rw [Int.tmod_eq_emod_of_nonneg ha0]; exact ha
  have htb : b.tmod 5 = (k : Int) := by rw [Int.tmod_eq_emod_of_nonneg hb0]; exact hb
  have hi5 : i < 5 := by omega
  have hk5 : k < 5 := by omega
  obtain ⟨l, e1, hl, hk, hn⟩ := order_get hi5 hk5
  rw [if_neg hlt] at hk hn
  have hsi := signs_at i hi5
  have hsk := signs_at k hk5
  have hki := kinds_at i hi5
  have hkk := kinds_at k hk5
  have hst := order_str i k
  have hz1 := signs_len i hi5
  have hz2 := signs_len k hk5
  obtain ⟨KI, hKI⟩ : ∃ z, kindsO.getD i 0 = z := ⟨_, rfl⟩
  obtain ⟨KK, hKK⟩ : ∃ z, kindsO.getD k 0 = z := ⟨_, rfl⟩
  obtain ⟨SI, hSI⟩ : ∃ z, Lex.bytes (signsO.getD i []) = z := ⟨_, rfl⟩
  obtain ⟨SK, hSK⟩ : ∃ z, Lex.bytes (signsO.getD k []) = z := ⟨_, rfl⟩
  have hs1 : SI.size ≤ 5 := by rw [← hSI]; exact hz1
  have hs2 : SK.size ≤ 5 := by rw [← hSK]; exact hz2
  rw [hKI] at hki hk
  rw [hKK] at hkk hk
  rw [hSI] at hsi hst
  rw [hSK] at hsk hst
  have HP2 : Hid (∀ (S : ByteArray) (W : World), S.data.toList = orderText i k → Calls Try.prog 9 #[.string S] W (ParseGot W (l, 0, 0))) := fun S W hS => by
    have := landParse S W (by show S.data.size ≤ maxLen; rw [← Array.length_toList, hS]; unfold orderText; have : maxLen = 9223372036854775807 := rfl; simp only [List.length_append, List.length_cons, List.length_nil]; omega)
    rw [hS, e1] at this; exact this
  have HS := Lib.hid hst
  have HL := Lib.hid hl
  have HK := Lib.hid hk
  have HN := Lib.hid hn
  have si := fun T T2 o2 => ((Blk.new w #[.string { data := #[45, 62] }, .string { data := #[124] }, .string { data := #[38] }, .string { data := #[115, 105, 110, 99, 101] }, .string { data := #[117, 110, 116, 105, 108] }] T _ rfl).alloc (.cells o2 T2)).cell i hsi
  have sk := fun T T2 o2 => ((Blk.new w #[.string { data := #[45, 62] }, .string { data := #[124] }, .string { data := #[38] }, .string { data := #[115, 105, 110, 99, 101] }, .string { data := #[117, 110, 116, 105, 108] }] T _ rfl).alloc (.cells o2 T2)).cell k hsk
  have HKB := Lib.hid (fun (o : Obj) T => Blk.new (w.alloc o) #[.int .i64 7, .int .i64 6, .int .i64 5, .int .i64 14, .int .i64 15] T _ rfl)
  have HKI := Lib.hid hki
  have HKK := Lib.hid hkk
  have hi0 : (0 : Int) ≤ (i : Int) := by omega
  have hk0 : (0 : Int) ≤ (k : Int) := by omega
  have hi4 : (i : Int) < 5 := by omega
  have hk4 : (k : Int) < 5 := by omega
  have hq1 : ¬ 9223372036854775807 < 2 + SI.size := by omega
  have hq2 : ¬ 9223372036854775807 < 2 + SI.size + 3 := by omega
  have hq3 : ¬ 9223372036854775807 < 2 + SI.size + 3 + SK.size := by omega
  have hq4 : ¬ 9223372036854775807 < 2 + SI.size + 3 + SK.size + 2 := by omega
  have hmn : decide (min (i : Int) 3 < min (k : Int) 3) = false := decide_eq_false (by omega)
  clear ha hb e1 hl hk hn hsi hsk hki hkk hst hz1 hz2 hKI hKK hSI hSK hlt hi5 hk5
  go_enter Try.func4, Try.ntmps4
  go_wp2_with fail
  go_region_law
    (first
      | (go_simp; go_wp2_with (go_at_call 9; refine (HP2.out _ _ HS.out).mono ?_; rintro e w1 ⟨A, m, c, rfl, hr⟩)))
  all_goals
    obtain ⟨hm, hN, hc, -, hb⟩ := hr
    have hm5 : m = 5 := hm.symm.trans HL.out
    subst hm5
    obtain ⟨bb, off, rfl, hcell⟩ := five hN HL.out HK.out HN.out
    have HCE := Lib.hid hcell
    have hb2 := undrew hb
    have hkb := (HKB.out _ _).later hb2
    have ki := hkb.cell i HKI.out
    have kk := hkb.cell k HKK.out
    have hsz1 : ∀ o : Obj, (w.alloc o).heap.size = w.heap.size + 1 := fun o => by simp
    rw [hsz1] at ki kk
    have hbw := (((Below.refl w.heap.size w).alloc (Nat.le_refl _) _).alloc (by simp) _).trans (hb2.mono (by simp; omega))
    have HB1 := Lib.hid hbw
    have hc5 : (5 : Int) ≤ (c : Int) := by omega
    have l4 := (hcell 4 (by decide)).1
    have l2 := (hcell 2 (by decide)).1
    have l0 := (hcell 0 (by decide)).2
    have l1 := (hcell 1 (by decide)).2
    have l3 := (hcell 3 (by decide)).2
    replace l4 : w1.cell? ⟨bb, off + 20, none⟩ = some (.int .i64 KK) := l4
    replace l2 : w1.cell? ⟨bb, off + 10, none⟩ = some (.int .i64 KI) := l2
    replace l0 : w1.cell? ⟨bb, off + 1, none⟩ = some (.string { data := #[112] }) := l0
    replace l1 : w1.cell? ⟨bb, off + 6, none⟩ = some (.string { data := #[113] }) := l1
    replace l3 : w1.cell? ⟨bb, off + 16, none⟩ = some (.string { data := #[114] }) := l3
    clear hb hb2 hkb hcell hN hm hc hsz1 hbw si sk
    go_wp2_with fail
    go_quiet (fail)
    go_wp2_with fail
    refine (HA.out _).mono ?_
    rintro e w2 ⟨rfl, hb2⟩
    have HB2 := Lib.hid (HB1.out.trans ((undrewL hb2).mono HB1.out.size))
    clear hb2
    go_wp2_with fail
    go_ret
    exact ⟨rfl, HB2.out⟩
set_option maxHeartbeats 16000000 in
set_option maxRecDepth 100000 in
theorem lawOrderYes (a b : Int) (i k : Nat) (w : World) (ha0 : 0 ≤ a) (ha1 : a ≤ 255) (hb0 : 0 ≤ b) (hb1 : b ≤ 255) (ha : a % 5 = (i : Int)) (hb : b % 5 = (k : Int)) (hlt : min i 3 < min k 3) :
    Calls Try.prog 4 #[.int .u8 a, .int .u8 b] w fun e w' => e = .returned (.bool true) ∧ Below w.heap.size w w' := by
  have HA := Lib.hid (fun W => awake W)
  have hta : a.tmod 5 = (i : Int) := by rw [Int.tmod_eq_emod_of_nonneg ha0]; exact ha
  have htb : b.tmod 5 = (k : Int) := by rw [Int.tmod_eq_emod_of_nonneg hb0]; exact hb
  have hi5 : i < 5 := by omega
  have hk5 : k < 5 := by omega
  obtain ⟨l, e1, hl, hk, hn⟩ := order_get hi5 hk5
  rw [if_pos hlt] at hk hn
  have hne := kinds_ne i hi5 k hk5 hlt
  have hsi := signs_at i hi5
  have hsk := signs_at k hk5
  have hki := kinds_at i hi5
  have hkk := kinds_at k hk5
  have hst := order_str i k
  have hz1 := signs_len i hi5
  have hz2 := signs_len k hk5
  obtain ⟨KI, hKI⟩ : ∃ z, kindsO.getD i 0 = z := ⟨_, rfl⟩
  obtain ⟨KK, hKK⟩ : ∃ z, kindsO.getD k 0 = z := ⟨_, rfl⟩
  obtain ⟨SI, hSI⟩ : ∃ z, Lex.bytes (signsO.getD i []) = z := ⟨_, rfl⟩
  obtain ⟨SK, hSK⟩ : ∃ z, Lex.bytes (signsO.getD k []) = z := ⟨_, rfl⟩
  have hs1 : SI.size ≤ 5 := by rw [← hSI]; exact hz1
  have hs2 : SK.size ≤ 5 := by rw [← hSK]; exact hz2
  rw [hKI] at hki hk hne
  rw [hKK] at hkk hk hne
  rw [hSI] at hsi hst
  rw [hSK] at hsk hst
  have HP2 : Hid (∀ (S : ByteArray) (W : World), S.data.toList = orderText i k → Calls Try.prog 9 #[.string S] W (ParseGot W (l, 0, 0))) := fun S W hS => by
    have := landParse S W (by show S.data.size ≤ maxLen; rw [← Array.length_toList, hS]; unfold orderText; have : maxLen = 9223372036854775807 := rfl; simp only [List.length_append, List.length_cons, List.length_nil]; omega)
    rw [hS, e1] at this; exact this
  have HS := Lib.hid hst
  have HL := Lib.hid hl
  have HK := Lib.hid hk
  have HN := Lib.hid hn
  have si := fun T T2 o2 => ((Blk.new w #[.string { data := #[45, 62] }, .string { data := #[124] }, .string { data := #[38] }, .string { data := #[115, 105, 110, 99, 101] }, .string { data := #[117, 110, 116, 105, 108] }] T _ rfl).alloc (.cells o2 T2)).cell i hsi
  have sk := fun T T2 o2 => ((Blk.new w #[.string { data := #[45, 62] }, .string { data := #[124] }, .string { data := #[38] }, .string { data := #[115, 105, 110, 99, 101] }, .string { data := #[117, 110, 116, 105, 108] }] T _ rfl).alloc (.cells o2 T2)).cell k hsk
  have HKB := Lib.hid (fun (o : Obj) T => Blk.new (w.alloc o) #[.int .i64 7, .int .i64 6, .int .i64 5, .int .i64 14, .int .i64 15] T _ rfl)
  have HKI := Lib.hid hki
  have HKK := Lib.hid hkk
  have hi0 : (0 : Int) ≤ (i : Int) := by omega
  have hk0 : (0 : Int) ≤ (k : Int) := by omega
  have hi4 : (i : Int) < 5 := by omega
  have hk4 : (k : Int) < 5 := by omega
  have hq1 : ¬ 9223372036854775807 < 2 + SI.size := by omega
  have hq2 : ¬ 9223372036854775807 < 2 + SI.size + 3 := by omega
  have hq3 : ¬ 9223372036854775807 < 2 + SI.size + 3 + SK.size := by omega
  have hq4 : ¬ 9223372036854775807 < 2 + SI.size + 3 + SK.size + 2 := by omega
  have hmn : decide (min (i : Int) 3 < min (k : Int) 3) = true := decide_eq_true (by omega)
  clear ha hb e1 hl hk hn hsi hsk hki hkk hst hz1 hz2 hKI hKK hSI hSK hlt hi5 hk5
  go_enter Try.func4, Try.ntmps4
  go_wp2_with fail
  go_region_law
    (first
      | (go_simp; go_wp2_with (go_at_call 9; refine (HP2.out _ _ HS.out).mono ?_; rintro e w1 ⟨A, m, c, rfl, hr⟩)))
  all_goals
    obtain ⟨hm, hN, hc, -, hb⟩ := hr
    have hm5 : m = 5 := hm.symm.trans HL.out
    subst hm5
    obtain ⟨bb, off, rfl, hcell⟩ := five hN HL.out HK.out HN.out
    have HCE := Lib.hid hcell
    have hb2 := undrew hb
    have hkb := (HKB.out _ _).later hb2
    have ki := hkb.cell i HKI.out
    have kk := hkb.cell k HKK.out
    have hsz1 : ∀ o : Obj, (w.alloc o).heap.size = w.heap.size + 1 := fun o => by simp
    rw [hsz1] at ki kk
    have hbw := (((Below.refl w.heap.size w).alloc (Nat.le_refl _) _).alloc (by simp) _).trans (hb2.mono (by simp; omega))
    have HB1 := Lib.hid hbw
    have hc5 : (5 : Int) ≤ (c : Int) := by omega
    have l4 := (hcell 4 (by decide)).1
    have l3 := (hcell 3 (by decide)).1
    have l2 := (hcell 2 (by decide)).2
    replace l4 : w1.cell? ⟨bb, off + 20, none⟩ = some (.int .i64 KI) := l4
    replace l3 : w1.cell? ⟨bb, off + 15, none⟩ = some (.int .i64 KK) := l3
    replace l2 : w1.cell? ⟨bb, off + 11, none⟩ = some (.string { data := #[114] }) := l2
    clear hb hb2 hkb hcell hN hm hc hsz1 hbw si sk
    go_wp2_with fail
    go_quiet (fail)
    have l4' : (w1.drewN nq).cell? ⟨bb, off + 20, none⟩ = some (.int .i64 KI) := by rw [World.cell?_drewN]; exact l4
    have l3' : (w1.drewN nq).cell? ⟨bb, off + 15, none⟩ = some (.int .i64 KK) := by rw [World.cell?_drewN]; exact l3
    have l2' : (w1.drewN nq).cell? ⟨bb, off + 11, none⟩ = some (.string { data := #[114] }) := by rw [World.cell?_drewN]; exact l2
    have ki' : (w1.drewN nq).cell? ⟨w.heap.size + 1, i, none⟩ = some (.int .i64 KI) := by rw [World.cell?_drewN]; exact ki
    have kk' : (w1.drewN nq).cell? ⟨w.heap.size + 1, k, none⟩ = some (.int .i64 KK) := by rw [World.cell?_drewN]; exact kk
    have HB3 := Lib.hid (show Below w.heap.size w (w1.drewN nq) from ⟨HB1.out.os, HB1.out.tape, HB1.out.output, HB1.out.size, HB1.out.block⟩)
    generalize w1.drewN nq = W at *
    go_wp2_with fail
    go_still_tail 29, (by kernel_rfl)
    go_wp2_with fail
    refine (HA.out _).mono ?_
    rintro e w2 ⟨rfl, hb2⟩
    have HB2 := Lib.hid (HB3.out.trans ((undrew hb2).mono HB3.out.size))
    clear hb2
    go_wp2_with fail
    go_ret
    exact ⟨rfl, HB2.out⟩

theorem lawOrder (a b : Int) (w : World) (ha : 0 ≤ a ∧ a ≤ 255) (hb : 0 ≤ b ∧ b ≤ 255) :
    Calls Try.prog 4 #[.int .u8 a, .int .u8 b] w fun e w' => e = .returned (.bool true) ∧ Below w.heap.size w w' := by
  obtain ⟨i, hi⟩ : ∃ i : Nat, a % 5 = (i : Int) := Int.eq_ofNat_of_zero_le (Int.emod_nonneg _ (by omega))
  obtain ⟨k, hk⟩ : ∃ k : Nat, b % 5 = (k : Int) := Int.eq_ofNat_of_zero_le (Int.emod_nonneg _ (by omega))
  by_cases hlt : min i 3 < min k 3
  · exact lawOrderYes a b i k w ha.1 ha.2 hb.1 hb.2 hi hk hlt
  · exact lawOrderNo a b i k w ha.1 ha.2 hb.1 hb.2 hi hk hlt
end Go.Proofs.Ytbljjmgmdcjocaa.Parse
