/-
  The walks of the landed tree's Form, Reg, Plain and Same. By an AI agent.
-/
import Derived.Test.YtmahbocelckmcaaTreeMayL
import Derived.Test.YtmahbocelckmcaaTreeSameN
import Derived.Test.YtmahbocelckmcaaTreeWhole
import Derived.Shelf.Abstract
namespace Go.Proofs.Ytmahbocelckmcaa.Tree
open Go.RowKit Go.Proofs.Ytmahbocelckmcaa.Ints

theorem reg_last {l : List Nd} (h : mayL l = true) : regL l = regKind (lastKind l) := by
  obtain ⟨n, st, h1, -, -, h4, -⟩ := may_apart h
  unfold regL
  rw [h, Bool.true_and]
  unfold lastKind
  rw [h1, Option.map_some, Option.getD_some]
  unfold fieldsB at h4
  rw [Bool.and_eq_true, kinds_range] at h4
  have := h4.1
  unfold formKind regKind
  by_cases h2 : n.kind ≤ 17
  · rw [decide_eq_true (by omega), decide_eq_false (by omega)]; rfl
  · rw [decide_eq_false (by omega), decide_eq_true (by omega)]; rfl

set_option maxHeartbeats 2000000 in
theorem landForm (A : Option Addr) (n c : Nat) (l : List Nd) (w : World) (hl : l.length = n) (hn : n ≤ 1048576) (h : Nodes Any w A l) :
    Calls Try.prog 13 #[.slice A n c] w fun e w' => e = .returned (.bool (formL l)) ∧ Below w.heap.size w w' := by
  have hni : (n : Int) ≤ 1048576 := by omega
  have hM := fun W (hb : Below w.heap.size w W) => landMay A n c l W hl hn (h.below hb)
  have HL := Lib.hid hl
  have HD := Lib.hid h
  clear hl hn h
  rcases hm : mayL l
  · have HR := Lib.hid (show formL l = false by unfold formL; rw [hm]; rfl)
    rw [hm] at hM
    have HM := Lib.hid hM
    clear hM hm
    go_enter Try.func13, Try.ntmps13
    go_wp2_with (go_at_call 27; refine (HM.out _ (Below.refl _ _)).mono ?_; rintro e w1 ⟨rfl, hb1⟩)
    go_ret
    exact ⟨by rw [HR.out]; rfl, hb1⟩
  · have h0 := may_ne hm
    have HR := Lib.hid (show formL l = formKind (lastKind l) by unfold formL; rw [hm]; rfl)
    rw [hm] at hM
    have HM := Lib.hid hM
    have hn0 : 0 < n := by rw [← HL.out]; exact h0
    obtain ⟨b, off, e, hc⟩ := last_cell HL.out hn0 HD.out
    have HF := Lib.hid (fun W => landIsForm (lastKind l) W)
    have hn1 : (0 : Int) ≤ (n : Int) - 1 := by omega
    have hn2 : (1 : Int) ≤ (n : Int) := by omega
    have HC := Lib.hid hc
    subst e
    clear hM hm h0 hc
    go_enter Try.func13, Try.ntmps13
    go_wp2_with (first
      | (go_at_call 27; refine (HM.out _ (Below.refl _ _)).mono ?_; rintro e w1 ⟨rfl, hb1⟩; have hc1 := below_cell hb1 HC.out)
      | (go_at_call 35; refine (HF.out _).mono ?_; rintro e w' ⟨rfl, rfl⟩))
    go_ret
    exact ⟨by rw [HR.out]; rfl, hb1⟩
set_option maxHeartbeats 2000000 in
theorem landReg (A : Option Addr) (n c : Nat) (l : List Nd) (w : World) (hl : l.length = n) (hn : n ≤ 1048576) (h : Nodes Any w A l) :
    Calls Try.prog 14 #[.slice A n c] w fun e w' => e = .returned (.bool (regL l)) ∧ Below w.heap.size w w' := by
  have hni : (n : Int) ≤ 1048576 := by omega
  have hM := fun W (hb : Below w.heap.size w W) => landMay A n c l W hl hn (h.below hb)
  have HL := Lib.hid hl
  have HD := Lib.hid h
  clear hl hn h
  rcases hm : mayL l
  · have HR := Lib.hid (show regL l = false by unfold regL; rw [hm]; rfl)
    rw [hm] at hM
    have HM := Lib.hid hM
    clear hM hm
    go_enter Try.func14, Try.ntmps14
    go_wp2_with (go_at_call 27; refine (HM.out _ (Below.refl _ _)).mono ?_; rintro e w1 ⟨rfl, hb1⟩)
    go_ret
    exact ⟨by rw [HR.out]; rfl, hb1⟩
  · have h0 := may_ne hm
    have HR := Lib.hid (show regL l = regKind (lastKind l) from reg_last hm)
    rw [hm] at hM
    have HM := Lib.hid hM
    have hn0 : 0 < n := by rw [← HL.out]; exact h0
    obtain ⟨b, off, e, hc⟩ := last_cell HL.out hn0 HD.out
    have HF := Lib.hid (fun W => landIsReg (lastKind l) W)
    have hn1 : (0 : Int) ≤ (n : Int) - 1 := by omega
    have hn2 : (1 : Int) ≤ (n : Int) := by omega
    have HC := Lib.hid hc
    subst e
    clear hM hm h0 hc
    go_enter Try.func14, Try.ntmps14
    go_wp2_with (first
      | (go_at_call 27; refine (HM.out _ (Below.refl _ _)).mono ?_; rintro e w1 ⟨rfl, hb1⟩; have hc1 := below_cell hb1 HC.out)
      | (go_at_call 36; refine (HF.out _).mono ?_; rintro e w' ⟨rfl, rfl⟩))
    go_ret
    exact ⟨by rw [HR.out]; rfl, hb1⟩


set_option maxHeartbeats 1000000 in
theorem landIsShort (nd : Nd) (K : Option Addr) (m c : Nat) (w : World) :
    Calls Try.prog 38 #[ndV nd K m c] w fun e w' => e = .returned (.bool (sweet nd.kind)) ∧ Below w.heap.size w w' := by
  rcases sweet_ways nd.kind with ⟨h7, hs⟩ | ⟨h7, h8, hs⟩ | ⟨h7, h8, h15, hs⟩ | ⟨h7, h8, h15, hs⟩
  all_goals
    rw [hs]
    clear hs
    go_enter Try.func38, Try.ntmps38
    go_wp2
    go_ret
    exact ⟨rfl, (Below.refl _ _).alloc (Nat.le_refl _) _⟩
theorem enterShort : ∀ args w, (callFunc 38 args).run Try.prog w = .ok (.enter 38 args) w := enters_of Try.func38 (by kernel_rfl) rfl
theorem enterSameNode : ∀ args w, (callFunc 49 args).run Try.prog w = .ok (.enter 49 args) w := enters_of Try.func49 (by kernel_rfl) rfl

def GotIdx (w : World) (any : Bool) (e : Ending) (w' : World) : Prop := ∃ r : Int, e = .returned (.int .i64 r) ∧ decide (0 ≤ r) = any ∧ Below w.heap.size w w'
set_option maxHeartbeats 2000000 in
theorem indexShort (A : Option Addr) (n c : Nat) (l : List Nd) (w : World) (hl : l.length = n) (hn : n ≤ 1048576) (h : Nodes Any w A l) :
    Calls Try.prog 61 #[.slice A n c, .func (.func 38) #[] #[]] w (GotIdx w (l.any fun x => sweet x.kind)) := by
  have hni : (n : Int) ≤ 1048576 := by omega
  have HL := Lib.hid hl
  have HD := Lib.hid h
  have HES := Lib.hid enterShort
  clear hl hn h
  go_enter Try.func61, Try.ntmps61
  go_wp2
  go_loopw [8] (fun i wr => ∃ k : Nat, k ≤ n ∧ i = .int .i64 k ∧ Below w.heap.size w wr ∧ Hid (∀ (j : Nat) (x : Nd), j < k → l[j]? = some x → sweet x.kind = false)) (fun i _ => n - (intOf i).toNat)
  case atStart => exact ⟨0, Nat.zero_le _, rfl, Below.refl _ _, fun j x hj => absurd hj (by omega)⟩
  case round =>
    obtain ⟨k, hk, rfl, hB, HJ⟩ := hrel
    have HB := Lib.hid hB
    clear hB
    by_cases hkn : k < n
    · have hkn' : (k : Int) < (n : Int) := by omega
      obtain ⟨b, off, e, hnodes⟩ := (HD.out.below HB.out) (by have := HL.out; omega)
      obtain ⟨nd, hnd⟩ : ∃ nd, l[k]? = some nd := ⟨_, List.getElem?_eq_getElem (by have := HL.out; omega)⟩
      obtain ⟨x0, x1, x2, x3, s0, s2, s3, s1, K, cK, x4, hK, hKc, hcK, -, -⟩ := hnodes k nd hnd
      rw [Nat.mul_comm 5 k] at x0 x1 x2 x3 x4
      obtain ⟨m, hm⟩ : ∃ m, nd.kids.length = m := ⟨_, rfl⟩
      rw [hm] at x4
      have HND := Lib.hid hnd
      have HIS := Lib.hid (fun W => landIsShort nd K m cK W)
      subst e
      have es := HES.out
      clear hnd hnodes hK hm
      rcases hsw : sweet nd.kind
      · have HJ2 := Lib.hid (show ∀ (j : Nat) (x : Nd), j < k + 1 → l[j]? = some x → sweet x.kind = false from fun j x hj hx => by
          by_cases hjk : j = k
          · subst hjk; rw [Option.some.inj (hx.symm.trans HND.out)]; exact hsw
          · exact HJ.out j x (by omega) hx)
        rw [hsw] at HIS
        clear hsw
        go_wp2_with (go_at_fn 38; refine (HIS.out _).mono ?_; rintro e w1 ⟨rfl, hb1⟩)
        go_roundw
        case rel => exact ⟨k + 1, by omega, by go_num, HB.out.trans (hb1.mono HB.out.size), HJ2⟩
        case measure => simp [intOf]; omega
      · have HR := Lib.hid (show (l.any fun x => sweet x.kind) = true from List.any_eq_true.2 ⟨nd, List.mem_of_getElem? HND.out, hsw⟩)
        rw [hsw] at HIS
        clear hsw
        go_wp2_with (go_at_fn 38; refine (HIS.out _).mono ?_; rintro e w1 ⟨rfl, hb1⟩)
        go_ret
        exact ⟨(k : Int), rfl, by rw [HR.out]; exact decide_eq_true (by omega), HB.out.trans (hb1.mono HB.out.size)⟩
    · have hge : decide ((k : Int) < (n : Int)) = false := by simp; omega
      have HR := Lib.hid (show (l.any fun x => sweet x.kind) = false from List.any_eq_false.2 fun x hx => by
        obtain ⟨j, hj, rfl⟩ := List.getElem_of_mem hx
        rw [HJ.out j _ (by have := HL.out; omega) (List.getElem?_eq_getElem hj)]; decide)
      go_wp2
      go_ret
      exact ⟨-1, rfl, by rw [HR.out]; rfl, HB.out⟩
theorem containsShort (A : Option Addr) (n c : Nat) (l : List Nd) (w : World) (hl : l.length = n) (hn : n ≤ 1048576) (h : Nodes Any w A l) :
    Calls Try.prog 37 #[.slice A n c, .func (.func 38) #[] #[]] w fun e w' => e = .returned (.bool (l.any fun x => sweet x.kind)) ∧ Below w.heap.size w w' := by
  have HI := Lib.hid (fun W (hb : Below w.heap.size w W) => indexShort A n c l W hl hn (h.below hb))
  clear hl hn h
  go_enter Try.func37, Try.ntmps37
  go_wp2_with (go_at_call 61; refine (HI.out _ (Below.refl _ _)).mono ?_; rintro e w1 ⟨r, rfl, hr, hb1⟩)
  go_ret
  exact ⟨rfl, hb1⟩
theorem plain_any (l : List Nd) (h : mayL l = true) : plainL l = !(l.any fun x => sweet x.kind) := by
  unfold plainL
  rw [h, Bool.and_true, List.not_any_eq_all_not]
set_option maxHeartbeats 1000000 in
theorem landPlain (A : Option Addr) (n c : Nat) (l : List Nd) (w : World) (hl : l.length = n) (hn : n ≤ 1048576) (h : Nodes Any w A l) :
    Calls Try.prog 15 #[.slice A n c] w fun e w' => e = .returned (.bool (plainL l)) ∧ Below w.heap.size w w' := by
  have hM := fun W (hb : Below w.heap.size w W) => landMay A n c l W hl hn (h.below hb)
  have HC := Lib.hid (fun W (hb : Below w.heap.size w W) => containsShort A n c l W hl hn (h.below hb))
  clear hl hn h
  rcases hm : mayL l
  · have HR := Lib.hid (show plainL l = false by unfold plainL; rw [hm]; simp)
    rw [hm] at hM
    have HM := Lib.hid hM
    clear hM hm
    go_enter Try.func15, Try.ntmps15
    go_wp2_with (go_at_call 27; refine (HM.out _ (Below.refl _ _)).mono ?_; rintro e w1 ⟨rfl, hb1⟩)
    go_ret
    exact ⟨by rw [HR.out]; rfl, hb1⟩
  · have HR := Lib.hid (plain_any l hm)
    rw [hm] at hM
    have HM := Lib.hid hM
    obtain ⟨B, hB⟩ : ∃ b, (l.any fun x => sweet x.kind) = b := ⟨_, rfl⟩
    rw [hB] at HR HC
    clear hM hm hB
    go_enter Try.func15, Try.ntmps15
    go_wp2_with (first
      | (go_at_call 27; refine (HM.out _ (Below.refl _ _)).mono ?_; rintro e w1 ⟨rfl, hb1⟩)
      | (go_at_call 37; refine (HC.out _ hb1).mono ?_; rintro e w2 ⟨rfl, hb2⟩))
    go_ret
    exact ⟨by rw [HR.out]; rfl, hb1.trans (hb2.mono hb1.size)⟩

set_option maxHeartbeats 4000000 in
theorem landSameNode (x y : Nd) (K1 K2 : Option Addr) (m1 c1 m2 c2 : Nat) (w : World) (hx : Rd .i64 w K1 m1 x.kids) (hy : Rd .i64 w K2 m2 y.kids) (hm1 : m1 ≤ maxLen) (hm2 : m2 ≤ maxLen) :
    Calls Try.prog 49 #[ndV x K1 m1 c1, ndV y K2 m2 c2] w fun e w' => e = .returned (.bool (decide (x = y))) ∧ Below w.heap.size w w' := by
  have HEQ := Lib.hid (fun W (hb : Below w.heap.size w W) => equalInts K1 K2 m1 c1 m2 c2 x.kids y.kids W (hx.below hb) (hy.below hb) hm1 hm2)
  have hbk : (x.kind == y.kind) = !(x.kind != y.kind) := by rw [bne, Bool.not_not]
  have hsq := fun W => span_eql x.lo x.hi y.lo y.hi W
  have hgs := guardSpan
  clear hx hy hm1 hm2
  rcases same_ways x y with ⟨hk, h⟩ | ⟨hk, hm1, -, h⟩ | ⟨hk, hm1, -, hsp, h⟩ | ⟨hk, hm1, -, hsp, hkd, h⟩ | ⟨hk, hm1, -, hsp, hkd, h⟩
  case' inr.inr.inr.inr => rw [decide_eq_true h]
  case' inl | inr.inl | inr.inr.inl | inr.inr.inr.inl => rw [decide_eq_false h]
  case' inr.inr.inl | inr.inr.inr.inl | inr.inr.inr.inr => rw [hsp] at hsq
  case' inr.inr.inr.inl | inr.inr.inr.inr => rw [hkd] at HEQ
  all_goals
    rw [hk] at hbk
    clear h
    go_enter Try.func49, Try.ntmps49
    go_wp2_with (go_at_call 39; refine (HEQ.out _ (((Below.refl _ _).alloc (Nat.le_refl _) _).alloc (le_alloc (Nat.le_refl _)) _)).mono ?_; rintro e w' ⟨rfl, qq, rfl⟩)
    go_ret
    first
      | exact ⟨rfl, ((Below.refl _ _).alloc (Nat.le_refl _) _).alloc (le_alloc (Nat.le_refl _)) _⟩
      | exact ⟨rfl, below_drewN (((Below.refl _ _).alloc (Nat.le_refl _) _).alloc (le_alloc (Nat.le_refl _)) _) _⟩
end Go.Proofs.Ytmahbocelckmcaa.Tree
