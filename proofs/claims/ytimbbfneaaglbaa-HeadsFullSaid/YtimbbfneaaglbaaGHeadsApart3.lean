/-
  The walks of package sum and of its reference: what each call returns, by the plain arithmetic. By an AI agent.
  The walks of Sum, landed and by the reference. By an AI agent.
  The walks of number, bytes.Clone, Put and Right, and of their references: the law SumPuts. By an AI agent.
  Right, landed and by the reference, at any bytes: do they end by their sum? By an AI agent.
-/
import Derived.Test.YtimbbfneaaglbaaGHeadsApart2
import Derived.Test.YtimbbfneaaglbaaGHeadsApart1
import Derived.Test.YtimbbfneaaglbaaChecked
import Derived.WalkKit
import Derived.WalkSpells
import Derived.WalkLawsBesides
import Derived.Below
import Derived.Lib.Hide
import Derived.Lib.SlBytesConst
import Derived.RegionTactic
import Derived.Deep.RegionHeld3
import Derived.BigQuiet
import Derived.Deep.QuietTactic
import Derived.IntWalk
import Derived.Laws.BytesArg
import Derived.WalkSmall
namespace Go.Proofs.Ytimbbfneaaglbaa.SumWalks
open Go.RowKit Go.Proofs.Ytimbbfneaaglbaa.SumMath Go.Proofs.Ytimbbfneaaglbaa.Ints

set_option maxHeartbeats 400000 in
set_option maxRecDepth 100000 in
theorem sumMore (s : Int) (A : Option Addr) (n c : Nat) (zs : List Int) (w : World) (hs0 : 0 ≤ s) (hs : s ≤ 4294967295) (hn : n ≤ c) (hc : c ≤ maxLen) (h : Rd .u8 w A n zs) :
    Calls Try.prog 75 #[.int .u32 s, .slice A n c] w fun e w' => e = .returned (.int .u32 (adn s zs)) ∧ w = w' := by
  unfold maxLen at hc
  have hl := h.len
  have hbd := h.u8
  have hcell := h.cell
  clear h
  obtain ⟨h1, h2, h3, h4⟩ := start_bd s
  have HL := Lib.hid hl
  clear hl
  go_enter Try.func75, Try.ntmps75
  go_wp2
  go_loop [1, 5, 6] (fun v a h => ∃ (j : Nat) (A' : Option Addr), j ≤ n ∧ v = .slice A' (n - j) (c - j) ∧ (j < n → ∃ b off, A' = some ⟨b, off, none⟩ ∧ ∀ k, k < n - j → w.cell? ⟨b, off + k, none⟩ = some (.int .u8 (zs[j + k]?.getD 0))) ∧
      a = .int .u32 (adl (s % 65536 % 65521) (zs.take j)) ∧ h = .int .u32 (adh (s % 65536 % 65521) (s / 65536 % 65521) (zs.take j))) (fun v _ _ => match v with | .slice _ l _ => l | _ => 0)
  case atStart => exact ⟨0, A, Nat.zero_le _, rfl, by simpa using hcell, rfl, rfl⟩
  case round =>
    obtain ⟨j, A', hj, rfl, hA, rfl, rfl⟩ := hrel
    clear hcell
    by_cases hlt : j < n
    · obtain ⟨b, off, rfl, hcell⟩ := hA hlt
      clear hA
      have hp : (0 : Int) < ((n - j : Nat) : Int) := by omega
      have hin := inn_start _ _ (zs.take j) h1 h2 h3 h4
      have hz : zs.length = n := HL.out
      obtain ⟨m, hm1, hm2, hm3, hm4, hm5⟩ : ∃ m : Nat, m ≤ n - j ∧ m ≤ 5552 ∧ (n - j ≤ 5552 → n - j ≤ m) ∧ (¬ n - j ≤ 5552 → 5552 ≤ m) ∧ 0 < m := by
        by_cases h5 : n - j ≤ 5552
        · exact ⟨n - j, by omega, by omega, by omega, by omega, by omega⟩
        · exact ⟨5552, by omega, by omega, by omega, by omega, by omega⟩
      by_cases h5 : n - j ≤ 5552
      all_goals
        have h5' : (((n - j : Nat) : Int) ≤ 5552) = (n - j ≤ 5552) := by apply propext; omega
        clear h5'
        go_wp2
        go_loop [5, 6, 26] (fun a h i => ∃ (k : Nat) (av hv : Int), k ≤ m ∧ i = .int .i64 k ∧ a = .int .u32 av ∧ h = .int .u32 hv ∧ Inn (s % 65536 % 65521) (s / 65536 % 65521) k (zs.take (j + k)) av hv) (fun _ _ i => m - (intOf i).toNat)
        case atStart => exact ⟨0, _, _, Nat.zero_le _, rfl, rfl, rfl, hin⟩
        case round =>
          obtain ⟨k, av, hv, hk, rfl, rfl, rfl, hi⟩ := hrel
          clear hin
          by_cases hkm : k < m
          · have hc1 := hcell k (by omega)
            have hb1 := hbd (j + k) (by omega)
            have hsm := inn_small hi (by omega) hb1
            have HI := Lib.hid (inn_step hi hb1)
            have HS := Lib.hid (take_snoc zs (j + k) (by omega))
            clear hcell hbd hz hi
            go_wp2
            go_round
            case rel => exact ⟨k + 1, _, _, by omega, by go_num, rfl, rfl, by rw [← Nat.add_assoc, HS.out]; exact HI.out⟩
            case measure => simp [intOf]; omega
          · have hkm' : k = m := by omega
            subst hkm'
            have hsm := inn_now hi (by omega)
            have HI := Lib.hid hi
            clear hi hbd hz
            go_wp2
            go_round
            case rel =>
              have hv1 := HI.out.2.2.2.2.1
              have hv2 := HI.out.2.2.2.2.2
              first
                | (have hkn : n - j = k := by omega
                   exact ⟨j + k, _, by omega, slice_eq rfl (by omega) (by omega), fun h => absurd h (by omega), int_eq hv1, int_eq hv2⟩)
                | (have hkn : 5552 = k := by omega
                   exact ⟨j + k, _, by omega, slice_eq rfl (by omega) (by omega), fun h => ⟨_, _, rfl, fun i hi => by
                     have := hcell (5552 + i) (by omega)
                     rw [← Nat.add_assoc] at this
                     rw [this, ← hkn, Nat.add_assoc]⟩, int_eq hv1, int_eq hv2⟩)
            case measure => show _ < n - j; first | (show n - j - 5552 < n - j; omega) | (show 0 < n - j; omega)
    · have hjn : j = n := by omega
      have HJ := Lib.hid hjn
      clear hjn
      go_wp2
      go_ret
      exact ⟨ret_int (by rw [HJ.out, List.take_of_length_le (by rw [HL.out]; omega)]; have := adn_bd s zs; unfold adn at *; omega), rfl⟩

end Go.Proofs.Ytimbbfneaaglbaa.SumWalks

namespace Go.Proofs.Ytimbbfneaaglbaa.SumWalks
open Go.RowKit Go.Proofs.Ytimbbfneaaglbaa.SumMath Go.Proofs.Ytimbbfneaaglbaa.Ints

theorem sumSum (A : Option Addr) (n c : Nat) (zs : List Int) (w : World) (hn : n ≤ c) (hc : c ≤ maxLen) (h : Rd .u8 w A n zs) :
    Calls Try.prog 61 #[.slice A n c] w fun e w' => e = .returned (.int .u32 (adn 1 zs)) ∧ w = w' := by
  go_enter Try.func61, Try.ntmps61
  go_wp2_with (go_at_call 75; refine (sumMore 1 _ n c zs _ (by omega) (by omega) hn hc h).mono ?_; rintro e w' ⟨rfl, rfl⟩)
  go_ret
  exact ⟨rfl, rfl⟩

end Go.Proofs.Ytimbbfneaaglbaa.SumWalks

namespace Go.Proofs.Ytimbbfneaaglbaa.SumWalks
open Go.RowKit Go.Proofs.Ytimbbfneaaglbaa.SumMath Go.Proofs.Ytimbbfneaaglbaa.Ints

theorem be_or (x0 x1 x2 x3 : Int) (b0 : 0 ≤ x0 ∧ x0 ≤ 255) (b1 : 0 ≤ x1 ∧ x1 ≤ 255) (b2 : 0 ≤ x2 ∧ x2 ≤ 255) (b3 : 0 ≤ x3 ∧ x3 ≤ 255) :
    bits .or .u32 (bits .or .u32 (bits .or .u32 (x0 * 16777216) (x1 * 65536)) (x2 * 256)) x3 = x0 * 16777216 + x1 * 65536 + x2 * 256 + x3 := by
  have e1 := or_low_u32 24 x0 (x1 * 65536) (by omega) (by omega) (by simp; omega) (by simp; omega)
  have e2 := or_low_u32 16 (x0 * 256 + x1) (x2 * 256) (by omega) (by omega) (by simp; omega) (by simp; omega)
  have e3 := or_low_u32 8 (x0 * 65536 + x1 * 256 + x2) x3 (by omega) (by omega) (by simp; omega) (by simp; omega)
  simp only [show ((2 ^ 24 : Nat) : Int) = 16777216 from rfl, show ((2 ^ 16 : Nat) : Int) = 65536 from rfl, show ((2 ^ 8 : Nat) : Int) = 256 from rfl] at e1 e2 e3
  rw [e1, show x0 * 16777216 + x1 * 65536 = (x0 * 256 + x1) * 65536 by omega, e2, show (x0 * 256 + x1) * 65536 + x2 * 256 = (x0 * 65536 + x1 * 256 + x2) * 256 by omega, e3]

theorem number (b off c : Nat) (x0 x1 x2 x3 : Int) (w : World) (h : Rd .u8 w (some ⟨b, off, none⟩) 4 [x0, x1, x2, x3]) :
    Calls Try.prog 85 #[.slice (some ⟨b, off, none⟩) 4 c] w fun e w' => e = .returned (.int .u32 (x0 * 16777216 + x1 * 65536 + x2 * 256 + x3)) ∧ ∃ q, w' = w.drewN q := by
  obtain ⟨b', off', e', hc⟩ := h.cell (by omega)
  simp only [Option.some.injEq, Addr.mk.injEq, and_true] at e'
  obtain ⟨rfl, rfl⟩ := e'
  have c0 : w.cell? ⟨b, off, none⟩ = some (.int .u8 x0) := by simpa using hc 0 (by omega)
  have c1 : w.cell? ⟨b, off + 1, none⟩ = some (.int .u8 x1) := by simpa using hc 1 (by omega)
  have c2 : w.cell? ⟨b, off + 2, none⟩ = some (.int .u8 x2) := by simpa using hc 2 (by omega)
  have c3 : w.cell? ⟨b, off + 3, none⟩ = some (.int .u8 x3) := by simpa using hc 3 (by omega)
  have b0 := h.u8 0 (by omega)
  have b1 := h.u8 1 (by omega)
  have b2 := h.u8 2 (by omega)
  have b3 := h.u8 3 (by omega)
  simp at b0 b1 b2 b3
  clear hc h
  go_enter Try.func85, Try.ntmps85
  go_wp2
  go_quiet (fail)
  go_wp2
  go_ret
  exact ⟨ret_int (be_or x0 x1 x2 x3 b0 b1 b2 b3), _, rfl⟩

theorem info5' : (Try.prog.info? 5).map (fun i => (i.zero, i.size, i.bytes)) = some (some (.int .u8 0), 1, 1) := by kernel_rfl

/-- The call hands back a row of its own, the numbers zs; nothing that was there has changed. -/
def Made (w : World) (n : Nat) (zs : List Int) (e : Ending) (w' : World) : Prop :=
  ∃ v', e = .returned v' ∧ w'.ownsRow w.heap.size 5 1 v' n (zs.map (Value.int .u8)) ∧ Below w.heap.size w w'

theorem clone (A : Option Addr) (n c : Nat) (zs : List Int) (w : World) (hA : A = none → c = 0) (hn : n ≤ c) (hc : n ≤ 140737488355328) (h : Rd .u8 w A n zs) :
    Calls Try.prog 38 #[.slice A n c] w (Made w n zs) := by
  obtain ⟨i0, hi, hz0, hz1, hz2⟩ := info_parts info5'
  have q1 : 0 + n ≤ maxLen := by unfold maxLen; omega
  have q2 : (0 + n) * 1 ≤ 140737488355328 := by omega
  have q3 : w.heap.size ≤ (w.alloc (.cells #[] 5)).heap.size := by simp
  have hnil := fun (W : World) (B : Option Addr) => Lib.run_eql_slice_nil (P := Try.prog) W 36 5 B n c 0 0 Try.underlying36
  cases A with
  | none =>
    have h0 := hA rfl
    subst h0
    have h1 : n = 0 := by omega
    subst h1
    have h2 : zs = [] := List.eq_nil_of_length_eq_zero h.len
    subst h2
    go_enter Try.func38, Try.ntmps38
    go_wp2
    go_ret
    exact ⟨_, rfl, World.ownsRow_nil _ _ _ _, Below.refl _ _⟩
  | some a =>
    go_enter Try.func38, Try.ntmps38
    go_wp2_with (at_builtin; refine wpList_append_ints rfl _ _ 36 rfl .u8 w.heap.size 5 i0 1 Try.underlying36 hi hz0 hz1 hz2 (.slice (some ⟨w.heap.size, 0, none⟩) 0 0) 0 [] rfl (World.ownsRow_made w #[] 0 (Nat.le_refl _) (by decide) rfl) _ _ _ zs rfl (h.alloc _) q1 q2 q3 ?_; intro v' w1 hown hgr; simp only [Nat.zero_add, List.nil_append] at hown)
    go_ret
    exact ⟨_, rfl, hown, ((Below.refl _ _).alloc (Nat.le_refl _) _).grown hgr (by simp) (by rintro k hk; simp [Value.ownBlock] at hk; omega)⟩

/-- The four bytes of a sum. -/
def be4 (s : Int) : List Int := [s / 16777216, s / 65536 % 256, s / 256 % 256, s % 256]

theorem be4_wf {s : Int} (h : 0 ≤ s ∧ s ≤ 4294967295) : ∀ z ∈ be4 s, (Lit.int .u8 z).wf = true := by
  intro z hz
  simp [be4] at hz
  refine u8_wf ?_
  omega

theorem sumPut (A : Option Addr) (n c : Nat) (zs : List Int) (w : World) (hn : n ≤ c) (hcm : c ≤ maxLen) (hc : n ≤ 140737488351232) (h : Rd .u8 w A n zs) :
    Calls Try.prog 46 #[.slice A n c] w (Made w (n + 4) (zs ++ be4 (adn 1 zs))) := by
  obtain ⟨i0, hi, hz0, hz1, hz2⟩ := info_parts info5'
  have q1 : 0 + n ≤ maxLen := by omega
  have q2 : (0 + n) * 1 ≤ 140737488355328 := by omega
  have hbd := adn_bd 1 zs
  have hs := fun W hW => sumSum A n c zs W hn hcm hW
  generalize adn 1 zs = s at *
  have HS := Lib.hid hs
  clear hs
  have hw4 := be4_wf hbd
  have q4 : n + 4 ≤ maxLen := by unfold maxLen; omega
  have q5 : (n + 4) * 1 ≤ 140737488355328 := by omega
  have q6 : i0.bytes * (n + 4) ≤ 281474976710656 := by rw [hz2]; omega
  go_enter Try.func46, Try.ntmps46
  go_wp2_with (first
    | (at_builtin; refine wpList_append_ints rfl _ _ 36 rfl .u8 w.heap.size 5 i0 1 Try.underlying36 hi hz0 hz1 hz2 (.slice (some ⟨w.heap.size, 0, none⟩) 0 (n + 4)) 0 [] rfl hmade _ _ _ zs rfl hrd q1 q2 hr2 ?_; intro v' w2 hown hgr; simp only [Nat.zero_add, List.nil_append] at hown)
    | (at_make; refine wpList_make_own _ rfl _ _ 36 rfl w.heap.size 5 i0 (.int .u8 0) 1 Try.underlying36 hi hz0 hz1 .i64 .i64 _ (n + 4) rfl rfl (by omega) q6 q4 (Nat.le_refl _) ?_; intro w1 hmade hgr1; have hrd := h.grown hgr1 (fun _ _ => by simp); have hr2 := hgr1.size))
  have hb2 : Below w.heap.size w w2 := (((Below.refl _ _).grown hgr1 (Nat.le_refl _) (by simp)).grown hgr hr2 (by rintro k hk; simp [Value.ownBlock] at hk; omega))
  have hs2 := HS.out w2 (h.below hb2)
  clear hgr hgr1 hmade hrd
  refine hs2.mono ?_
  clear hs2
  rintro e w' ⟨rfl, rfl⟩
  have hr3 : ∀ o, w.heap.size ≤ (w2.alloc o).heap.size := fun o => by have := hb2.size; simp; omega
  go_wp2_with (at_builtin; refine wpList_append_ints rfl _ _ 36 rfl .u8 w.heap.size 5 i0 1 Try.underlying36 hi hz0 hz1 hz2 v' n zs rfl (hown.alloc _) _ 4 4 (be4 s) rfl (Rd.lit w2 5 (0, 0) (be4 s) hw4) q4 q5 (hr3 _) ?_; intro v2 w3 hown2 hgr2)
  go_ret
  exact ⟨_, rfl, hown2, (hb2.alloc hb2.size _).grown hgr2 (hr3 _) (fun k hk => (hown.lt k hk).1)⟩

/-- Four bytes read as their number's. -/
theorem be4_back {x0 x1 x2 x3 s : Int} (b1 : 0 ≤ x1 ∧ x1 ≤ 255) (b2 : 0 ≤ x2 ∧ x2 ≤ 255) (b3 : 0 ≤ x3 ∧ x3 ≤ 255) :
    x0 * 16777216 + x1 * 65536 + x2 * 256 + x3 = s ↔ [x0, x1, x2, x3] = be4 s := by
  simp only [be4, List.cons.injEq, and_true]
  constructor
  · intro h; omega
  · intro h; omega
theorem four {zs : List Int} {n : Nat} (hl : zs.length = n) (h4 : 4 ≤ n) : ∃ x0 x1 x2 x3, zs.drop (n - 4) = [x0, x1, x2, x3] := by
  have h : (zs.drop (n - 4)).length = 4 := by rw [List.length_drop]; omega
  match zs.drop (n - 4), h with
  | [x0, x1, x2, x3], _ => exact ⟨x0, x1, x2, x3, rfl⟩

/-- The bytes are those of Put. -/
def Sealed (n : Nat) (zs : List Int) : Prop := 4 ≤ n ∧ zs.drop (n - 4) = be4 (adn 1 (zs.take (n - 4)))

/-- What Right answers where there is something: the bytes ahead of the sum, and true. -/
def Opened (w : World) (n : Nat) (zs : List Int) (e : Ending) (w' : World) : Prop :=
  ∃ A c, e = .returned (.tuple #[.slice A n c, .bool true]) ∧ Rd .u8 w' A n zs ∧ (n ≤ c ∧ c ≤ maxLen) ∧ Below w.heap.size w w'

theorem rightShort (A : Option Addr) (n c : Nat) (w : World) (hn4 : n < 4) :
    Calls Try.prog 78 #[.slice A n c] w fun e w' => e = .returned (.tuple #[.slice none 0 0, .bool false]) ∧ Below w.heap.size w w' := by
  have hg : decide ((n : Int) - 4 < 0) = true := by simp; omega
  have hg2 : (n : Int) - 4 < 0 := by omega
  go_enter Try.func78, Try.ntmps78
  go_wp2
  go_quiet (fail)
  go_wp2
  go_ret2
  exact ⟨rfl, below_drewN (Below.refl _ _) _⟩

theorem rightLong (b off m c : Nat) (zs : List Int) (x0 x1 x2 x3 : Int) (w : World) (hn : m + 4 ≤ c) (hcm : c ≤ maxLen) (hc : m ≤ 140737488351232) (h : Rd .u8 w (some ⟨b, off, none⟩) (m + 4) zs) (hx : zs.drop m = [x0, x1, x2, x3]) (r : Bool)
    (hr : (x0 * 16777216 + x1 * 65536 + x2 * 256 + x3 != adn 1 (zs.take m)) = r) :
    Calls Try.prog 78 #[.slice (some ⟨b, off, none⟩) (m + 4) c] w fun e w' =>
      if r then e = .returned (.tuple #[.slice none 0 0, .bool false]) ∧ Below w.heap.size w w' else Opened w m (zs.take m) e w' := by
  have hh := h.take (m := m) (by omega)
  have ht : Rd .u8 w (some ⟨b, off + m, none⟩) 4 [x0, x1, x2, x3] := by
    have := h.drop (m := m) (by omega)
    rwa [hx, show m + 4 - m = 4 by omega] at this
  have hnum := fun W (hW : Rd .u8 W (some ⟨b, off + m, none⟩) 4 [x0, x1, x2, x3]) => number b (off + m) (c - m) x0 x1 x2 x3 W hW
  have hsum := fun W (hW : Rd .u8 W (some ⟨b, off, none⟩) m (zs.take m)) => sumSum (some ⟨b, off, none⟩) m c _ W (by omega) hcm hW
  have HX := Lib.hid hx
  have HR := Lib.hid hr
  clear hx hr h
  generalize x0 * 16777216 + x1 * 65536 + x2 * 256 + x3 = u at *
  generalize zs.take m = ys at *
  generalize adn 1 ys = s at *
  have HN := Lib.hid hnum
  have HS := Lib.hid hsum
  clear hnum hsum
  have hg : decide ((m : Int) < 0) = false := by simp
  have g1 : (0 : Int) ≤ (m : Int) := by omega
  have g2 : (m : Int) ≤ (m : Int) + 4 := by omega
  have g3 : (m : Int) ≤ (c : Int) := by omega
  have g4 : ¬ c = m := by omega
  go_enter Try.func78, Try.ntmps78
  go_wp2
  go_quiet ((first | (go_at_call 85; exact quiet_more ⟨_, rfl⟩ (HN.out _ (by first | exact ht.drewN _ | exact ht))) | (go_at_call 61; exact quiet_left ⟨_, rfl⟩ (HS.out _ (by first | exact hh.drewN _ | exact hh)))))
  have hr := HR.out
  clear HN HS HR HX ht hg
  cases r with
  | true =>
    go_wp2
    go_ret2
    exact ⟨rfl, below_drewN (Below.refl _ _) _⟩
  | false =>
    go_wp2_with (go_at_call 38; refine (clone (some ⟨b, off, none⟩) m c ys _ (fun h => by cases h) (by omega) (by omega) (by first | exact hh.drewN _ | exact hh)).mono ?_; rintro e w' ⟨v', rfl, hown, hbel⟩; obtain ⟨A, c', rfl, h1, h2, _⟩ := own_slice hown)
    go_ret2
    exact ⟨_, _, rfl, Rd.own hown hh.all, ⟨h1, h2⟩, (below_drewN (Below.refl _ _) _).trans hbel⟩

end Go.Proofs.Ytimbbfneaaglbaa.SumWalks

namespace Go.Proofs.Ytimbbfneaaglbaa.SumWalks
open Go.RowKit Go.Proofs.Ytimbbfneaaglbaa.SumMath Go.Proofs.Ytimbbfneaaglbaa.Ints

/-- The bytes end by the sum of what is ahead of it. -/
def sealedB (zs : List Int) : Bool := decide (4 ≤ zs.length ∧ zs.drop (zs.length - 4) = be4 (adn 1 (zs.take (zs.length - 4))))
def openN (zs : List Int) : Nat := if sealedB zs then zs.length - 4 else 0
def openL (zs : List Int) : List Int := if sealedB zs then zs.take (zs.length - 4) else []
/-- What Right and its reference answer alike. -/
def AnsR (w : World) (zs : List Int) (e : Ending) (w' : World) : Prop :=
  ∃ A c, e = .returned (.tuple #[.slice A (openN zs) c, .bool (sealedB zs)]) ∧ Rd .u8 w' A (openN zs) (openL zs) ∧ openN zs ≤ c ∧ c ≤ maxLen ∧ Below w.heap.size w w'

theorem right_land (A : Option Addr) (n c : Nat) (zs : List Int) (w0 : World) (hn : n ≤ c) (hcm : c ≤ maxLen) (hs : n ≤ 140737488351232) (h0 : Rd .u8 w0 A n zs) :
    ∀ w, Rd .u8 w A n zs → Calls Try.prog 78 #[.slice A n c] w (AnsR w zs) := by
  have hl := h0.len
  have q63 : maxLen = 9223372036854775807 := rfl
  by_cases hn4 : n < 4
  · have hse : sealedB zs = false := decide_eq_false (by omega)
    have no : ∀ w e w', (e = .returned (.tuple #[.slice none 0 0, .bool false]) ∧ Below w.heap.size w w') → AnsR w zs e w' := fun w e w' ⟨he, hb⟩ => by
      unfold AnsR openN openL
      rw [hse]
      exact ⟨none, 0, he, Rd.nil _ _ _, Nat.le_refl _, by decide, hb⟩
    exact fun w _ => (rightShort A n c w hn4).mono fun e w' h => no w e w' h
  · obtain ⟨b, off, rfl, _⟩ := h0.cell (by omega)
    obtain ⟨m, rfl⟩ : ∃ m, n = m + 4 := ⟨n - 4, by omega⟩
    obtain ⟨x0, x1, x2, x3, hx⟩ := four h0.len (by omega)
    rw [show m + 4 - 4 = m by omega] at hx
    have ht := h0.drop (m := m) (by omega)
    rw [hx, show m + 4 - m = 4 by omega] at ht
    have b1 := ht.u8 1 (by omega)
    have b2 := ht.u8 2 (by omega)
    have b3 := ht.u8 3 (by omega)
    simp at b1 b2 b3
    have hback := be4_back (x0 := x0) (s := adn 1 (zs.take m)) b1 b2 b3
    have hse : sealedB zs = decide ([x0, x1, x2, x3] = be4 (adn 1 (zs.take m))) := by
      unfold sealedB
      rw [hl, show m + 4 - 4 = m by omega, hx]
      apply decide_eq_decide.2
      exact ⟨fun h => h.2, fun h => ⟨by omega, h⟩⟩
    by_cases hq : [x0, x1, x2, x3] = be4 (adn 1 (zs.take m))
    · have hse2 : sealedB zs = true := by rw [hse]; exact decide_eq_true hq
      have yes : ∀ w e w', Opened w m (zs.take m) e w' → AnsR w zs e w' := fun w e w' ⟨A, c, he, hr, hc, hb⟩ => by
        unfold AnsR openN openL
        rw [hse2, hl]
        rw [if_pos rfl, if_pos rfl, show m + 4 - 4 = m by omega]
        exact ⟨A, c, he, hr, hc.1, hc.2, hb⟩
      have hr1 : (x0 * 16777216 + x1 * 65536 + x2 * 256 + x3 != adn 1 (zs.take m)) = false := by rw [bne_eq_false_iff_eq]; exact hback.2 hq
      exact fun w hw => (rightLong b off m c zs x0 x1 x2 x3 w hn hcm (by omega) hw hx false hr1).mono fun e w' h => yes w e w' h
    · have hse2 : sealedB zs = false := by rw [hse]; exact decide_eq_false hq
      have no : ∀ w e w', (e = .returned (.tuple #[.slice none 0 0, .bool false]) ∧ Below w.heap.size w w') → AnsR w zs e w' := fun w e w' ⟨he, hb⟩ => by
        unfold AnsR openN openL
        rw [hse2]
        exact ⟨none, 0, he, Rd.nil _ _ _, Nat.le_refl _, by decide, hb⟩
      have hr1 : (x0 * 16777216 + x1 * 65536 + x2 * 256 + x3 != adn 1 (zs.take m)) = true := by rw [bne_iff_ne]; exact fun h => hq (hback.1 h)
      exact fun w hw => (rightLong b off m c zs x0 x1 x2 x3 w hn hcm (by omega) hw hx true hr1).mono fun e w' h => no w e w' h
end Go.Proofs.Ytimbbfneaaglbaa.SumWalks
