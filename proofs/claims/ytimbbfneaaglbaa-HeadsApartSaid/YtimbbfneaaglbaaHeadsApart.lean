/- The law watchglasslaw13.HeadsApart: called with any input it returns true and leaves its arguments as they were: for every input, without any condition. By an AI agent. -/
import Derived.Test.YtimbbfneaaglbaaRows
import Derived.Test.YtimbbfneaaglbaaGHeadsApart30
import Derived.Test.YtimbbfneaaglbaaGHeadsApart46
import Derived.SizedLaws
import Derived.WalkKit
import Derived.ProofKit
import Derived.OpenShut
import Derived.ShutString
import Derived.ChangeOld
import Derived.Below
import Derived.Carry
namespace Go.Proofs.Ytimbbfneaaglbaa.headsApart
open Go.ChangeShapes Go.WideShapes Go.ChangeAt Go.RowKit
open Go.ChangeMaps (open_string shut_string)
set_option linter.unusedVariables false

theorem own : ownKnob Try.prog.godebug = none := by kernel_rfl
theorem laidOut : laidOutB Try.prog = true := by kernel_rfl

/-- WHAT THE WALK IS TOLD OF A SLICE OF INTEGERS THAT CAME IN: it is nil; or it leads to a row of 'cap' cells, the numbers 'zs', each fitting its kind. -/
def IsRow (k : IntKind) (w : World) (a : Option Addr) (len cap : Nat) (zs : List Int) : Prop :=
  (a = none ∧ len = 0 ∧ cap = 0 ∧ zs = []) ∨
  ∃ x, a = some x ∧ len ≤ cap ∧ cap ≤ maxLen ∧ zs.length = cap ∧ (∀ i, i < zs.length → w.cell? (x.add i) = some (.int k (zs.getD i 0))) ∧ ∀ n ∈ zs, (Lit.int k n).wf = true

/-! ### The walk -/
theorem walk (a0 : Int) (a1 : Option Addr) (len1 cap1 : Nat) (z1 : List Int) (a2 : Option Addr) (len2 cap2 : Nat) (z2 : List Int) (a3 : Int) (a4 : Option Addr) (len4 cap4 : Nat) (z4 : List (List Int)) (w : World) (w0 : (Lit.int .u64 a0).wf = true) (w1 : IsRow .u16 w a1 len1 cap1 z1) (s1 : cap1 ≤ 140737488351232) (u1 : cap1 * 2 ≤ 140737488351232) (w2 : IsRow .i64 w a2 len2 cap2 z2) (s2 : cap2 ≤ 140737488351232) (u2 : cap2 * 8 ≤ 140737488351232) (w3 : (Lit.int .u8 a3).wf = true) (w4 : z4.length = len4 ∧ Mem.IntRows [.u8, .i64, .i64] w a4 z4 ∧ len4 ≤ cap4 ∧ cap4 ≤ maxLen) :
    Calls Try.prog 3 #[.int .u64 a0, .slice a1 len1 cap1, .slice a2 len2 cap2, .int .u8 a3, .slice a4 len4 cap4] w fun e w' => e = .returned (.bool true) ∧ Below w.heap.size w w' := by
  obtain ⟨hr1, hl1, hm1⟩ := Ints.rd_of w1
  obtain ⟨hr2, hl2, hm2⟩ := Ints.rd_of w2
  have hmm : len2 * 8 ≤ 140737488351232 := by omega
  obtain ⟨f3, f4⟩ := Ints.wf_u8 w3
  obtain ⟨k, rfl⟩ := Int.eq_ofNat_of_zero_le f3
  have hkk : k ≤ 255 := Int.ofNat_le.1 f4
  obtain ⟨L, C⟩ := Heads.landPool
  exact Heads.lawHeadsApart C a0 a1 len1 cap1 _ a2 len2 cap2 _ k a4 len4 cap4 z4 w (Ints.wf_u64 w0) hr1 (Nat.le_trans hl1 hm1) hr2 hmm hkk w4.1 w4.2.1 w4.2.2.1 (Nat.le_trans w4.2.2.1 w4.2.2.2)

/-! ### The row's step -/
set_option maxRecDepth 100000 in
theorem lifted (os : Os) (started : os.Started) (H : Type) (enc : TypeId × Value → H) :
    ReturnsInHanded {} Try.checked os 3 .any (Rows.headsApartSpec.pre6 enc Try.prog Try.f3 Rows.headsApartRow.domain false) (Rows.headsApartSpec.post enc Try.prog Try.f3 false true false false) := by
  refine returnsInHanded_of_change_sized (C := Try.checked) own started (by kernel_rfl) Try.func3
    (ChangeSpec.witness6 (enc := enc) (C := Try.checked) false ⟨#[], #[.int .u64 0, .slice none 0 0, .slice none 0 0, .int .u8 0, .slice none 0 0], []⟩ 8 (by kernel_rfl) (by kernel_rfl) (by kernel_rfl) (by kernel_rfl)) ?_
  intro W base args ds gs before hval0 hW hcnd hsz0 _
  have hsz : (DataW.weightsEach Try.prog (Try.f3.params.toList ++ Rows.headsApartSpec.plain.varTypes Try.prog) (ds ++ gs)).all (· ≤ reachBytes) = true := hsz0
  have hval : ∀ (j : Nat) t v, Try.f3.params[j]? = some t → args[j]? = some v → Value.okWide Try.prog W .any base t v := hval0
  have hW' := hW
  obtain ⟨p, q, hA0, hV, rfl, hfz, hnd⟩ := hW
  have hA : DataW.TrodAll enc Try.prog W 0 (fun _ => true) true Try.f3.params.toList args.toList ds p := hA0
  rw [Try.params3] at hA hval hsz
  obtain ⟨v0, vs0, d0, ds0, p0, q0, hargs, rfl, rfl, h0, r0⟩ := trodAll_cons hA
  obtain ⟨v1, vs1, d1, ds1, p1, q1, rfl, rfl, rfl, h1, r1⟩ := trodAll_cons r0
  obtain ⟨v2, vs2, d2, ds2, p2, q2, rfl, rfl, rfl, h2, r2⟩ := trodAll_cons r1
  obtain ⟨v3, vs3, d3, ds3, p3, q3, rfl, rfl, rfl, h3, r3⟩ := trodAll_cons r2
  obtain ⟨v4, vs4, d4, ds4, p4, q4, rfl, rfl, rfl, h4, r4⟩ := trodAll_cons r3
  obtain ⟨rfl, rfl, rfl⟩ := trodAll_nil r4
  obtain rfl : args = #[v0, v1, v2, v3, v4] := by cases args; simp_all
  obtain ⟨rfl, rfl⟩ := trodVars_none hV
  obtain ⟨a0, rfl, rfl, rfl, w0⟩ := open_int Try.underlying22 (hval 0 22 v0 rfl rfl) h0
  obtain ⟨a1, len1, cap1, rfl⟩ := okWide_slice Try.underlying23 (hval 1 23 v1 rfl rfl)
  have k1 := h1
  have lt1 : ∀ x ∈ p1, x.block < W.heap.size := by obtain ⟨m, hm⟩ := k1; exact DataW.trod_lt m _ _ _ hm
  obtain ⟨z1, w1, e1⟩ : ∃ zs, IsRow .u16 W a1 len1 cap1 zs ∧ (cap1 = 0 ∨ d1 = .slice (lits .u16 (zs.take len1)) (lits .u16 (zs.drop len1)) ∧ zs.length = cap1) := by
    obtain ⟨fuel, hf⟩ := h1
    rcases open_ints Try.underlying23 Try.underlying58 (by kernel_rfl) hf with ⟨hcs, hx⟩ | ⟨x, l, c, zs, hcs, _, hl, hm, hz, hx, hcell, hwz⟩
    · simp [Value.cells] at hcs
      obtain ⟨rfl, rfl, rfl⟩ := hcs
      exact ⟨[], .inl ⟨rfl, rfl, rfl, rfl⟩, .inl rfl⟩
    · simp [Value.cells] at hcs
      obtain ⟨rfl, rfl, rfl⟩ := hcs
      exact ⟨zs, .inr ⟨_, rfl, hl, hm, by simpa using hz, hcell, hwz⟩, .inr ⟨congrArg Prod.fst hx, by simpa using hz⟩⟩
  have s1 : cap1 ≤ 140737488351232 := by
    rcases e1 with h0' | ⟨rfl, hz'⟩
    · omega
    · have := sized_slice hsz (j := 1) (t := 23) (e := 58) rfl rfl Try.underlying23
      rw [(by kernel_rfl : Try.prog.bytesOf 58 = 2)] at this
      simp only [lits, List.length_map, List.length_take, List.length_drop, reachBytes] at this
      omega
  have u1 : cap1 * 2 ≤ 140737488351232 := by
    rcases e1 with h0' | ⟨rfl, hz'⟩
    · omega
    · have := sized_slice hsz (j := 1) (t := 23) (e := 58) rfl rfl Try.underlying23
      rw [(by kernel_rfl : Try.prog.bytesOf 58 = 2)] at this
      simp only [lits, List.length_map, List.length_take, List.length_drop, reachBytes] at this
      omega
  obtain ⟨a2, len2, cap2, rfl⟩ := okWide_slice Try.underlying24 (hval 2 24 v2 rfl rfl)
  have k2 := h2
  have lt2 : ∀ x ∈ p2, x.block < W.heap.size := by obtain ⟨m, hm⟩ := k2; exact DataW.trod_lt m _ _ _ hm
  obtain ⟨z2, w2, e2⟩ : ∃ zs, IsRow .i64 W a2 len2 cap2 zs ∧ (cap2 = 0 ∨ d2 = .slice (lits .i64 (zs.take len2)) (lits .i64 (zs.drop len2)) ∧ zs.length = cap2) := by
    obtain ⟨fuel, hf⟩ := h2
    rcases open_ints Try.underlying24 Try.underlying3 (by kernel_rfl) hf with ⟨hcs, hx⟩ | ⟨x, l, c, zs, hcs, _, hl, hm, hz, hx, hcell, hwz⟩
    · simp [Value.cells] at hcs
      obtain ⟨rfl, rfl, rfl⟩ := hcs
      exact ⟨[], .inl ⟨rfl, rfl, rfl, rfl⟩, .inl rfl⟩
    · simp [Value.cells] at hcs
      obtain ⟨rfl, rfl, rfl⟩ := hcs
      exact ⟨zs, .inr ⟨_, rfl, hl, hm, by simpa using hz, hcell, hwz⟩, .inr ⟨congrArg Prod.fst hx, by simpa using hz⟩⟩
  have s2 : cap2 ≤ 140737488351232 := by
    rcases e2 with h0' | ⟨rfl, hz'⟩
    · omega
    · have := sized_slice hsz (j := 2) (t := 24) (e := 3) rfl rfl Try.underlying24
      rw [(by kernel_rfl : Try.prog.bytesOf 3 = 8)] at this
      simp only [lits, List.length_map, List.length_take, List.length_drop, reachBytes] at this
      omega
  have u2 : cap2 * 8 ≤ 140737488351232 := by
    rcases e2 with h0' | ⟨rfl, hz'⟩
    · omega
    · have := sized_slice hsz (j := 2) (t := 24) (e := 3) rfl rfl Try.underlying24
      rw [(by kernel_rfl : Try.prog.bytesOf 3 = 8)] at this
      simp only [lits, List.length_map, List.length_take, List.length_drop, reachBytes] at this
      omega
  obtain ⟨a3, rfl, rfl, rfl, w3⟩ := open_int Try.underlying5 (hval 3 5 v3 rfl rfl) h3
  obtain ⟨a4, len4, cap4, rfl⟩ := okWide_slice Try.underlying25 (hval 4 25 v4 rfl rfl)
  have k4 := h4
  have lt4 : ∀ x ∈ p4, x.block < W.heap.size := by obtain ⟨m, hm⟩ := k4; exact DataW.trod_lt m _ _ _ hm
  obtain ⟨fu4, hf4⟩ := h4
  obtain ⟨z4, w4⟩ := Mem.introws_trod (P := Try.prog) (S := 25) (T := 43) (ks := [.u8, .i64, .i64]) (ts := [5, 3, 3]) Try.underlying25 (by kernel_rfl) (by decide) (by kernel_rfl) (by kernel_rfl) (fun i t hi => match i, hi with
    | 0, hi => by cases hi; exact ⟨_, rfl, Try.underlying5, by kernel_rfl⟩
    | 1, hi => by cases hi; exact ⟨_, rfl, Try.underlying3, by kernel_rfl⟩
    | 2, hi => by cases hi; exact ⟨_, rfl, Try.underlying3, by kernel_rfl⟩
    | (q + 3), hi => by simp at hi) rfl hf4
  clear hA0 hval0
  refine (walk a0 a1 len1 cap1 z1 a2 len2 cap2 z2 a3 a4 len4 cap4 z4 W w0 w1 s1 u1 w2 s2 u2 w3 w4).mono fun e W' ⟨he, bel⟩ => ?_
  subst he
  exact ⟨_, rfl, _, _, _, [], _, [], hW', trodAll_mk1 (shut_bool Try.underlying4 _), (trodAll_cons_mk (shut_int Try.underlying22 w0) (trodAll_cons_mk (Below.trod laidOut (by kernel_rfl) (of_decide_eq_true (by kernel_rfl)) k1 bel lt1) (trodAll_cons_mk (Below.trod laidOut (by kernel_rfl) (of_decide_eq_true (by kernel_rfl)) k2 bel lt2) (trodAll_cons_mk (shut_int Try.underlying5 w3) (trodAll_cons_mk (Below.trod laidOut (by kernel_rfl) (of_decide_eq_true (by kernel_rfl)) k4 bel lt4) trodAll_mk0))))), rfl, bel.frame _, fun h => by cases h⟩

theorem over : Rows.headsApartRow.holds Try.pinned (OpenSpec.ofChange Rows.headsApartSpec) :=
  OpenClaim.holds_of_wide 3 Try.f3 rfl rfl rfl rfl rfl rfl rfl ⟨rfl, rfl, rfl, rfl, rfl⟩ rfl rfl rfl rfl rfl (by kernel_rfl) Try.func3 (by kernel_rfl)
    (of_decide_eq_true (by kernel_rfl)) (by unfold Func.isWrapper; first | (rw [if_pos (by decide +kernel)]; kernel_rfl) | (rw [if_neg (by decide +kernel)]; exact ⟨rfl, rfl⟩))
    (fun os started H enc _ => lifted os started H enc)

/-- The statement. -/
theorem proved : Rows.HeadsApartSaid := over
end Go.Proofs.Ytimbbfneaaglbaa.headsApart
