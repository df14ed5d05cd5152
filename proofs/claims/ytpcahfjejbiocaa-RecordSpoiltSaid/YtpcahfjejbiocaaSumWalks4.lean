/-
  The walks of number, bytes.Clone, Put and Right, and of their references: the law SumPuts. By an AI agent.
-/
import Derived.Test.YtpcahfjejbiocaaSumSum
import Derived.RegionTactic
import Derived.Deep.RegionHeld3
import Derived.BigQuiet
import Derived.Deep.QuietTactic
import Derived.IntWalk
import Derived.Laws.BytesArg
import Derived.WalkSmall
namespace Go.Proofs.Ytpcahfjejbiocaa.SumWalks
open Go.RowKit Go.Proofs.Ytpcahfjejbiocaa.SumMath Go.Proofs.Ytpcahfjejbiocaa.Ints

theorem be_or (x0 x1 x2 x3 : Int) (b0 : 0 ≤ x0 ∧ x0 ≤ 255) (b1 : 0 ≤ x1 ∧ x1 ≤ 255) (b2 : 0 ≤ x2 ∧ x2 ≤ 255) (b3 : 0 ≤ x3 ∧ x3 ≤ 255) :
    bits .or .u32 (bits .or .u32 (bits .or .u32 (x0 * 16777216) (x1 * 65536)) (x2 * 256)) x3 = x0 * 16777216 + x1 * 65536 + x2 * 256 + x3 := by
  have e1 := or_low_u32 24 x0 (x1 * 65536) (by omega) (by omega) (by simp; omega) (by simp; omega)
  have e2 := or_low_u32 16 (x0 * 256 + x1) (x2 * 256) (by omega) (by omega) (by simp; omega) (by simp; omega)
  have e3 := or_low_u32 8 (x0 * 65536 + x1 * 256 + x2) x3 (by omega) (by omega) (by simp; omega) (by simp; omega)
  simp only [show ((2 ^ 24 : Nat) : Int) = 16777216 from rfl, show ((2 ^ 16 : Nat) : Int) = 65536 from rfl, show ((2 ^ 8 : Nat) : Int) = 256 from rfl] at e1 e2 e3
  rw [e1, show x0 * 16777216 + x1 * 65536 = (x0 * 256 + x1) * 65536 by omega, e2, show (x0 * 256 + x1) * 65536 + x2 * 256 = (x0 * 65536 + x1 * 256 + x2) * 256 by omega, e3]

theorem number (b off c : Nat) (x0 x1 x2 x3 : Int) (w : World) (h : Rd .u8 w (some ⟨b, off, none⟩) 4 [x0, x1, x2, x3]) :
    Calls Try.prog 35 #[.slice (some ⟨b, off, none⟩) 4 c] w fun e w' => e = .returned (.int .u32 (x0 * 16777216 + x1 * 65536 + x2 * 256 + x3)) ∧ ∃ q, w' = w.drewN q := by
  obtain ⟨b', off', e', hc⟩ := h.cell (by omega)
  simp only [Option.some.injEq, Addr.mk.injEq, and_true] at e'
  obtain ⟨rfl, rfl⟩ := e'
  have c0 : w.cell? ⟨b, off, none⟩ = some (.int .u8 x0) := by simpa using hc 0 (by omega)
  have c1 : w.cell? ⟨b, off + 1, none⟩ = some (.int .u8 x1) := by simpa using hc 1 (by omega)
  have c2 : w.cell? ⟨b, off + 2, none⟩ = some (.int .u8 x2) := by simpa using hc 2 (by omega)
  have c3 : w.cell? ⟨b, off + 3, none⟩ = some (.int .u8 x3) := by simpa using hc 3 (by omega)
  have b0 := h.u8 0 (by omega)
  have b1 := h.u8 1 (by omega)
  have b2 := h.u8 2 (by omega)
  have b3 := h.u8 3 (by omega)
  simp at b0 b1 b2 b3
  clear hc h
  go_enter Try.func35, Try.ntmps35
  go_wp2
  go_quiet (fail)
  go_wp2
  go_ret
  exact ⟨ret_int (be_or x0 x1 x2 x3 b0 b1 b2 b3), _, rfl⟩

theorem info5' : (Try.prog.info? 5).map (fun i => (i.zero, i.size, i.bytes)) = some (some (.int .u8 0), 1, 1) := by kernel_rfl

/-- The call hands back a row of its own, the numbers zs; nothing that was there has changed. -/
def Made (w : World) (n : Nat) (zs : List Int) (e : Ending) (w' : World) : Prop :=
  ∃ v', e = .returned v' ∧ w'.ownsRow w.heap.size 5 1 v' n (zs.map (Value.int .u8)) ∧ Below w.heap.size w w'

theorem clone (A : Option Addr) (n c : Nat) (zs : List Int) (w : World) (hA : A = none → c = 0) (hn : n ≤ c) (hc : n ≤ 140737488355328) (h : Rd .u8 w A n zs) :
    Calls Try.prog 18 #[.slice A n c] w (Made w n zs) := by
  obtain ⟨i0, hi, hz0, hz1, hz2⟩ := info_parts info5'
  have q1 : 0 + n ≤ maxLen := by unfold maxLen; omega
  have q2 : (0 + n) * 1 ≤ 140737488355328 := by omega
  have q3 : w.heap.size ≤ (w.alloc (.cells #[] 5)).heap.size := by simp
  have hnil := fun (W : World) (B : Option Addr) => Lib.run_eql_slice_nil (P := Try.prog) W 22 5 B n c 0 0 Try.underlying22
  cases A with
  | none =>
    have h0 := hA rfl
    subst h0
    have h1 : n = 0 := by omega
    subst h1
    have h2 : zs = [] := List.eq_nil_of_length_eq_zero h.len
    subst h2
    go_enter Try.func18, Try.ntmps18
    go_wp2
    go_ret
    exact ⟨_, rfl, World.ownsRow_nil _ _ _ _, Below.refl _ _⟩
  | some a =>
    go_enter Try.func18, Try.ntmps18
    go_wp2_with (at_builtin; refine wpList_append_ints rfl _ _ 22 rfl .u8 w.heap.size 5 i0 1 Try.underlying22 hi hz0 hz1 hz2 (.slice (some ⟨w.heap.size, 0, none⟩) 0 0) 0 [] rfl (World.ownsRow_made w #[] 0 (Nat.le_refl _) (by decide) rfl) _ _ _ zs rfl (h.alloc _) q1 q2 q3 ?_; intro v' w1 hown hgr; simp only [Nat.zero_add, List.nil_append] at hown)
    go_ret
    exact ⟨_, rfl, hown, ((Below.refl _ _).alloc (Nat.le_refl _) _).grown hgr (by simp) (by rintro k hk; simp [Value.ownBlock] at hk; omega)⟩

/-- The four bytes of a sum. -/
def be4 (s : Int) : List Int := [s / 16777216, s / 65536 % 256, s / 256 % 256, s % 256]

theorem be4_wf {s : Int} (h : 0 ≤ s ∧ s ≤ 4294967295) : ∀ z ∈ be4 s, (Lit.int .u8 z).wf = true := by
  intro z hz
  simp [be4] at hz
  refine u8_wf ?_
  omega

theorem refPut (A : Option Addr) (n c : Nat) (zs : List Int) (w : World) (hc : n ≤ 140737488351232) (h : Rd .u8 w A n zs) :
    Calls Try.prog 14 #[.slice A n c] w (Made w (n + 4) (zs ++ be4 (adn 1 zs))) := by
  obtain ⟨i0, hi, hz0, hz1, hz2⟩ := info_parts info5'
  have hcm : n ≤ maxLen := by unfold maxLen; omega
  have q1 : 0 + n ≤ maxLen := by omega
  have q2 : (0 + n) * 1 ≤ 140737488355328 := by omega
  have q3 : w.heap.size ≤ (w.alloc (.cells #[] 5)).heap.size := by simp
  have hbd := adn_bd 1 zs
  have hs := refSum A n c zs w hcm h
  generalize adn 1 zs = s at *
  have HS := Lib.hid hs
  clear hs
  go_enter Try.func14, Try.ntmps14
  have hw4 := be4_wf hbd
  have q4 : n + 4 ≤ maxLen := by unfold maxLen; omega
  have q5 : (n + 4) * 1 ≤ 140737488355328 := by omega
  go_wp2_with fail
  refine HS.out.mono ?_
  rintro e w' ⟨rfl, rfl⟩
  go_wp2_with (first
    | (at_builtin; refine wpList_append_ints rfl _ _ 22 rfl .u8 w.heap.size 5 i0 1 Try.underlying22 hi hz0 hz1 hz2 v' n zs rfl (hown.alloc _) _ 4 4 (be4 s) rfl (Rd.lit w1 5 (0, 0) (be4 s) hw4) q4 q5 (hr3 _) ?_; intro v2 w2 hown2 hgr2)
    | (at_builtin; refine wpList_append_ints rfl _ _ 22 rfl .u8 w.heap.size 5 i0 1 Try.underlying22 hi hz0 hz1 hz2 (.slice (some ⟨w.heap.size, 0, none⟩) 0 0) 0 [] rfl (World.ownsRow_made w #[] 0 (Nat.le_refl _) (by decide) rfl) _ _ _ zs rfl (h.alloc _) q1 q2 q3 ?_; intro v' w1 hown hgr; simp only [Nat.zero_add, List.nil_append] at hown; have hr3 : ∀ o, w.heap.size ≤ (w1.alloc o).heap.size := fun o => by have := hgr.size; simp at this ⊢; omega))
  go_ret
  have hb1 : Below w.heap.size w w1 := ((Below.refl _ _).alloc (Nat.le_refl _) _).grown hgr (by simp) (by rintro k hk; simp [Value.ownBlock] at hk; omega)
  exact ⟨_, rfl, hown2, (hb1.alloc hb1.size _).grown hgr2 (hr3 _) (fun k hk => (hown.lt k hk).1)⟩

theorem sumPut (A : Option Addr) (n c : Nat) (zs : List Int) (w : World) (hn : n ≤ c) (hcm : c ≤ maxLen) (hc : n ≤ 140737488351232) (h : Rd .u8 w A n zs) :
    Calls Try.prog 20 #[.slice A n c] w (Made w (n + 4) (zs ++ be4 (adn 1 zs))) := by
  obtain ⟨i0, hi, hz0, hz1, hz2⟩ := info_parts info5'
  have q1 : 0 + n ≤ maxLen := by omega
  have q2 : (0 + n) * 1 ≤ 140737488355328 := by omega
  have hbd := adn_bd 1 zs
  have hs := fun W hW => sumSum A n c zs W hn hcm hW
  generalize adn 1 zs = s at *
  have HS := Lib.hid hs
  clear hs
  have hw4 := be4_wf hbd
  have q4 : n + 4 ≤ maxLen := by unfold maxLen; omega
  have q5 : (n + 4) * 1 ≤ 140737488355328 := by omega
  have q6 : i0.bytes * (n + 4) ≤ 281474976710656 := by rw [hz2]; omega
  go_enter Try.func20, Try.ntmps20
  go_wp2_with (first
    | (at_builtin; refine wpList_append_ints rfl _ _ 22 rfl .u8 w.heap.size 5 i0 1 Try.underlying22 hi hz0 hz1 hz2 (.slice (some ⟨w.heap.size, 0, none⟩) 0 (n + 4)) 0 [] rfl hmade _ _ _ zs rfl hrd q1 q2 hr2 ?_; intro v' w2 hown hgr; simp only [Nat.zero_add, List.nil_append] at hown)
    | (at_make; refine wpList_make_own _ rfl _ _ 22 rfl w.heap.size 5 i0 (.int .u8 0) 1 Try.underlying22 hi hz0 hz1 .i64 .i64 _ (n + 4) rfl rfl (by omega) q6 q4 (Nat.le_refl _) ?_; intro w1 hmade hgr1; have hrd := h.grown hgr1 (fun _ _ => by simp); have hr2 := hgr1.size))
  have hb2 : Below w.heap.size w w2 := (((Below.refl _ _).grown hgr1 (Nat.le_refl _) (by simp)).grown hgr hr2 (by rintro k hk; simp [Value.ownBlock] at hk; omega))
  have hs2 := HS.out w2 (h.below hb2)
  clear hgr hgr1 hmade hrd
  refine hs2.mono ?_
  clear hs2
  rintro e w' ⟨rfl, rfl⟩
  have hr3 : ∀ o, w.heap.size ≤ (w2.alloc o).heap.size := fun o => by have := hb2.size; simp; omega
  go_wp2_with (at_builtin; refine wpList_append_ints rfl _ _ 22 rfl .u8 w.heap.size 5 i0 1 Try.underlying22 hi hz0 hz1 hz2 v' n zs rfl (hown.alloc _) _ 4 4 (be4 s) rfl (Rd.lit w2 5 (0, 0) (be4 s) hw4) q4 q5 (hr3 _) ?_; intro v2 w3 hown2 hgr2)
  go_ret
  exact ⟨_, rfl, hown2, (hb2.alloc hb2.size _).grown hgr2 (hr3 _) (fun k hk => (hown.lt k hk).1)⟩

/-- Four bytes read as their number's. -/
theorem be4_back {x0 x1 x2 x3 s : Int} (b1 : 0 ≤ x1 ∧ x1 ≤ 255) (b2 : 0 ≤ x2 ∧ x2 ≤ 255) (b3 : 0 ≤ x3 ∧ x3 ≤ 255) :
    x0 * 16777216 + x1 * 65536 + x2 * 256 + x3 = s ↔ [x0, x1, x2, x3] = be4 s := by
  simp only [be4, List.cons.injEq, and_true]
  constructor
  · intro h; omega
  · intro h; omega
theorem four {zs : List Int} {n : Nat} (hl : zs.length = n) (h4 : 4 ≤ n) : ∃ x0 x1 x2 x3, zs.drop (n - 4) = [x0, x1, x2, x3] := by
  have h : (zs.drop (n - 4)).length = 4 := by rw [List.length_drop]; omega
  match zs.drop (n - 4), h with
  | [x0, x1, x2, x3], _ => exact ⟨x0, x1, x2, x3, rfl⟩

/-- The bytes are those of Put. -/
def Sealed (n : Nat) (zs : List Int) : Prop := 4 ≤ n ∧ zs.drop (n - 4) = be4 (adn 1 (zs.take (n - 4)))

/-- What Right answers where there is something: the bytes ahead of the sum, and true. -/
def Opened (w : World) (n : Nat) (zs : List Int) (e : Ending) (w' : World) : Prop :=
  ∃ A c, e = .returned (.tuple #[.slice A n c, .bool true]) ∧ Rd .u8 w' A n zs ∧ (n ≤ c ∧ c ≤ maxLen) ∧ Below w.heap.size w w'

theorem rightShort (A : Option Addr) (n c : Nat) (w : World) (hn4 : n < 4) :
    Calls Try.prog 26 #[.slice A n c] w fun e w' => e = .returned (.tuple #[.slice none 0 0, .bool false]) ∧ Below w.heap.size w w' := by
  have hg : decide ((n : Int) - 4 < 0) = true := by simp; omega
  have hg2 : (n : Int) - 4 < 0 := by omega
  go_enter Try.func26, Try.ntmps26
  go_wp2
  go_quiet (fail)
  go_wp2
  go_ret2
  exact ⟨rfl, below_drewN (Below.refl _ _) _⟩

theorem rightLong (b off m c : Nat) (zs : List Int) (x0 x1 x2 x3 : Int) (w : World) (hn : m + 4 ≤ c) (hcm : c ≤ maxLen) (hc : m ≤ 140737488351232) (h : Rd .u8 w (some ⟨b, off, none⟩) (m + 4) zs) (hx : zs.drop m = [x0, x1, x2, x3]) (r : Bool)
    (hr : (x0 * 16777216 + x1 * 65536 + x2 * 256 + x3 != adn 1 (zs.take m)) = r) :
    Calls Try.prog 26 #[.slice (some ⟨b, off, none⟩) (m + 4) c] w fun e w' =>
      if r then e = .returned (.tuple #[.slice none 0 0, .bool false]) ∧ Below w.heap.size w w' else Opened w m (zs.take m) e w' := by
  have hh := h.take (m := m) (by omega)
  have ht : Rd .u8 w (some ⟨b, off + m, none⟩) 4 [x0, x1, x2, x3] := by
    have := h.drop (m := m) (by omega)
    rwa [hx, show m + 4 - m = 4 by omega] at this
  have hnum := fun W (hW : Rd .u8 W (some ⟨b, off + m, none⟩) 4 [x0, x1, x2, x3]) => number b (off + m) (c - m) x0 x1 x2 x3 W hW
  have hsum := fun W (hW : Rd .u8 W (some ⟨b, off, none⟩) m (zs.take m)) => sumSum (some ⟨b, off, none⟩) m c _ W (by omega) hcm hW
  have HX := Lib.hid hx
  have HR := Lib.hid hr
  clear hx hr h
  generalize x0 * 16777216 + x1 * 65536 + x2 * 256 + x3 = u at *
  generalize zs.take m = ys at *
  generalize adn 1 ys = s at *
  have HN := Lib.hid hnum
  have HS := Lib.hid hsum
  clear hnum hsum
  have hg : decide ((m : Int) < 0) = false := by simp
  have g1 : (0 : Int) ≤ (m : Int) := by omega
  have g2 : (m : Int) ≤ (m : Int) + 4 := by omega
  have g3 : (m : Int) ≤ (c : Int) := by omega
  have g4 : ¬ c = m := by omega
  go_enter Try.func26, Try.ntmps26
  go_wp2
  go_quiet ((first | (go_at_call 35; exact quiet_more ⟨_, rfl⟩ (HN.out _ (by first | exact ht.drewN _ | exact ht))) | (go_at_call 30; exact quiet_left ⟨_, rfl⟩ (HS.out _ (by first | exact hh.drewN _ | exact hh)))))
  have hr := HR.out
  clear HN HS HR HX ht hg
  cases r with
  | true =>
    go_wp2
    go_ret2
    exact ⟨rfl, below_drewN (Below.refl _ _) _⟩
  | false =>
    go_wp2_with (go_at_call 18; refine (clone (some ⟨b, off, none⟩) m c ys _ (fun h => by cases h) (by omega) (by omega) (by first | exact hh.drewN _ | exact hh)).mono ?_; rintro e w' ⟨v', rfl, hown, hbel⟩; obtain ⟨A, c', rfl, h1, h2, _⟩ := own_slice hown)
    go_ret2
    exact ⟨_, _, rfl, Rd.own hown hh.all, ⟨h1, h2⟩, (below_drewN (Below.refl _ _) _).trans hbel⟩

theorem refRightShort (A : Option Addr) (n c : Nat) (w : World) (hn4 : n < 4) :
    Calls Try.prog 32 #[.slice A n c] w fun e w' => e = .returned (.tuple #[.slice none 0 0, .bool false]) ∧ Below w.heap.size w w' := by
  have hg2 : (n : Int) < 4 := by omega
  go_enter Try.func32, Try.ntmps32
  go_wp2
  go_ret2
  exact ⟨rfl, Below.refl _ _⟩

theorem refRightLong (b off m c : Nat) (zs : List Int) (w : World) (hn : m + 4 ≤ c) (hcm : c ≤ maxLen) (hc : m ≤ 140737488351232) (h : Rd .u8 w (some ⟨b, off, none⟩) (m + 4) zs) (r : Bool)
    (hr : ((strOfNums (zs.take m ++ be4 (adn 1 (zs.take m)))).toList == (strOfNums zs).toList) = !r) :
    Calls Try.prog 32 #[.slice (some ⟨b, off, none⟩) (m + 4) c] w fun e w' =>
      if r then e = .returned (.tuple #[.slice none 0 0, .bool false]) ∧ Below w.heap.size w w' else Opened w m (zs.take m) e w' := by
  have hh := h.take (m := m) (by omega)
  have hp := fun W (hW : Rd .u8 W (some ⟨b, off, none⟩) m (zs.take m)) => refPut (some ⟨b, off, none⟩) m c _ W hc hW
  generalize zs.take m = ys at *
  have hw4 := be4_wf (adn_bd 1 ys)
  generalize be4 (adn 1 ys) = t4 at *
  have hall : ∀ z ∈ ys ++ t4, (Lit.int .u8 z).wf = true := fun z hz => (List.mem_append.1 hz).elim (hh.all z) (hw4 z)
  have HP := Lib.hid hp
  have HR := Lib.hid hr
  clear hp hr
  have g1 : (0 : Int) ≤ (m : Int) := by omega
  have g2 : (m : Int) ≤ (m : Int) + 4 := by omega
  have g3 : (m : Int) ≤ (c : Int) := by omega
  have g5 : ¬ ((m : Int) + 4 < 4) := by omega
  have hcv := fun W (hW : Rd .u8 W (some ⟨b, off, none⟩) (m + 4) zs) => run_str (P := Try.prog) (W := W) (c := c) 22 5 9 Try.underlying22 Try.underlying5 Try.underlying9 hW
  have hcv1 := hcv _ h.drew
  have HC := Lib.hid hcv
  clear hcv
  go_enter Try.func32, Try.ntmps32
  go_wp2
  go_region_with (go_at_call 14; refine (HP.out _ (by first | exact hh.drew | exact hh)).mono ?_; rintro e w' ⟨v', rfl, hown, hbel⟩; obtain ⟨A, c', rfl, _⟩ := own_slice hown; have e2 := run_str (P := Try.prog) (c := c') 22 5 9 Try.underlying22 Try.underlying5 Try.underlying9 (Rd.own hown hall); have e3 := HC.out w' (h.below (Below.drew (Below.refl _ _) |>.trans hbel)))
  all_goals
    have hr := HR.out
    clear e2 e3
    cases r with
    | true =>
      simp only [Bool.not_true] at hr
      rw [hr]
      clear hr
      go_wp2
      go_ret2
      exact ⟨rfl, (Below.refl _ _).drew.trans hbel⟩
    | false =>
      simp only [Bool.not_false] at hr
      rw [hr]
      clear hr
      go_wp2
      go_ret2
      exact ⟨_, _, rfl, hh.below ((Below.refl _ _).drew.trans hbel), ⟨by omega, hcm⟩, (Below.refl _ _).drew.trans hbel⟩
