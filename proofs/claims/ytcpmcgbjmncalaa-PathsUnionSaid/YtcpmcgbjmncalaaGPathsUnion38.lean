/-
  What the landed program asks of a list of nodes, as plain functions; it is what may be. The walks of the landed tree's small functions: kidCount, isForm, isReg, takesReg. The walks of the landed ival's endless and May, for seats that hold May alone. The walks of the landed tree's rightName, rightSpan, rightFields and rightKids. The walk of the landed tree's rightKids.
    Made of several texts by wip/tools/mergetpl.py. By an AI agent.
  DERIVED: THE SHELF's CONTRACTS AT THIS DUMP, IN PLAIN WORDS (tools/lay-plain.mjs out of 'TryShelf.lean', which tools/lay-shelf.mjs wrote): THE SAME DECLARATIONS UNDER THE SAME NAMES: 'import', 'namespace', 'open', 'def', 'theorem' AND NOTHING ELSE: no command of the shelf's: FOR A HAND-IN. Each laying: the table of numbers ('.._ren') and one theorem, a field a fact of the dump's own or the kernel's comparison; each contract: ONE APPLICATION.
  slices.Equal, at two slices that read as integers. By an AI agent.
-/
import Derived.Test.YtcpmcgbjmncalaaGPathsUnion11
import Derived.Test.YtcpmcgbjmncalaaGPathsUnion36
import Derived.Test.YtcpmcgbjmncalaaGPathsUnion37
import Derived.Shelf.Slices.Reverse
import Derived.Shelf.Slices.Equal
import Derived.Shelf.Slices.Cells
import Derived.Shelf.Slices.Empties2
import Derived.Test.YtcpmcgbjmncalaaProg
import Derived.Test.YtcpmcgbjmncalaaChecked
import Derived.Test.YtcpmcgbjmncalaaGPathsUnion1
/- The walks of the landed tree's small functions: kidCount, isForm, isReg, takesReg. By an AI agent. -/
namespace Go.Proofs.Ytcpmcgbjmncalaa.Tree
open Go.RowKit

theorem kidc_ways (k : Int) : ((k = 1 ∨ k = 2 ∨ k = 3 ∨ k = 18) ∧ kidc k = 0) ∨ ((k = 5 ∨ k = 6 ∨ k = 7 ∨ k = 14 ∨ k = 15 ∨ k = 20 ∨ k = 21) ∧ kidc k = 2) ∨
    ((k == 1) = false ∧ (k == 2) = false ∧ (k == 3) = false ∧ (k == 18) = false ∧ (k == 5) = false ∧ (k == 6) = false ∧ (k == 7) = false ∧ (k == 14) = false ∧ (k == 15) = false ∧ (k == 20) = false ∧ (k == 21) = false ∧ kidc k = 1) := by
  by_cases h1 : k = 1 ∨ k = 2 ∨ k = 3 ∨ k = 18
  · exact Or.inl ⟨h1, by unfold kidc; rw [if_pos (by simp only [none0, List.mem_cons, List.not_mem_nil, or_false]; exact h1)]⟩
  · by_cases h2 : k = 5 ∨ k = 6 ∨ k = 7 ∨ k = 14 ∨ k = 15 ∨ k = 20 ∨ k = 21
    · exact Or.inr (Or.inl ⟨h2, by unfold kidc; rw [if_neg (by simp only [none0, List.mem_cons, List.not_mem_nil, or_false]; exact h1), if_pos (by simp only [twos, List.mem_cons, List.not_mem_nil, or_false]; exact h2)]⟩)
    · refine Or.inr (Or.inr ?_)
      simp only [beq_eq_false_iff_ne]
      refine ⟨by omega, by omega, by omega, by omega, by omega, by omega, by omega, by omega, by omega, by omega, by omega, ?_⟩
      unfold kidc
      rw [if_neg (by simp only [none0, List.mem_cons, List.not_mem_nil, or_false]; exact h1), if_neg (by simp only [twos, List.mem_cons, List.not_mem_nil, or_false]; exact h2)]

set_option maxHeartbeats 2000000 in
theorem landKidCount (k : Int) (w : World) :
    Calls Try.prog 63 #[.int .i64 k] w fun e w' => e = .returned (.int .i64 (kidc k : Int)) ∧ w' = w := by
  rcases kidc_ways k with ⟨h, -⟩ | ⟨h, -⟩ | ⟨a1, a2, a3, a4, a5, a6, a7, a8, a9, a10, a11, h⟩
  · rcases h with rfl | rfl | rfl | rfl
    all_goals
      go_enter Try.func63, Try.ntmps63
      go_wp2
      go_ret
      exact ⟨rfl, rfl⟩
  · rcases h with rfl | rfl | rfl | rfl | rfl | rfl | rfl
    all_goals
      go_enter Try.func63, Try.ntmps63
      go_wp2
      go_ret
      exact ⟨rfl, rfl⟩
  · rw [h]
    clear h
    go_enter Try.func63, Try.ntmps63
    go_wp2
    go_ret
    exact ⟨rfl, rfl⟩
theorem landIsForm (k : Int) (w : World) :
    Calls Try.prog 74 #[.int .i64 k] w fun e w' => e = .returned (.bool (formKind k)) ∧ w' = w := by
  have h : formKind k = (decide (1 ≤ k) && decide (k ≤ 17)) := Bool.decide_and _ _
  rw [h]
  by_cases h1 : 1 ≤ k
  all_goals
    go_enter Try.func74, Try.ntmps74
    go_wp2
    go_ret
    exact ⟨by first | (simp [h1]; done) | (simp; omega), rfl⟩
theorem landIsReg (k : Int) (w : World) :
    Calls Try.prog 45 #[.int .i64 k] w fun e w' => e = .returned (.bool (regKind k)) ∧ w' = w := by
  have h : regKind k = (decide (18 ≤ k) && decide (k ≤ 22)) := Bool.decide_and _ _
  rw [h]
  by_cases h1 : 18 ≤ k
  all_goals
    go_enter Try.func45, Try.ntmps45
    go_wp2
    go_ret
    exact ⟨by first | (simp [h1]; done) | (simp; omega), rfl⟩
set_option maxHeartbeats 2000000 in
theorem landTakesReg (k : Int) (w : World) :
    Calls Try.prog 77 #[.int .i64 k] w fun e w' => e = .returned (.bool (takesReg k)) ∧ w' = w := by
  by_cases h : k = 16 ∨ k = 17 ∨ k = 20 ∨ k = 21 ∨ k = 22
  · rcases h with rfl | rfl | rfl | rfl | rfl
    all_goals
      go_enter Try.func77, Try.ntmps77
      go_wp2
      go_ret
      exact ⟨rfl, rfl⟩
  · have e : takesReg k = false := decide_eq_false (by simp only [regs, List.mem_cons, List.not_mem_nil, or_false]; exact h)
    rw [e]
    have a1 : (k == 16) = false := beq_eq_false_iff_ne.2 (by omega)
    have a2 : (k == 17) = false := beq_eq_false_iff_ne.2 (by omega)
    have a3 : (k == 20) = false := beq_eq_false_iff_ne.2 (by omega)
    have a4 : (k == 21) = false := beq_eq_false_iff_ne.2 (by omega)
    have a5 : (k == 22) = false := beq_eq_false_iff_ne.2 (by omega)
    clear e h
    go_enter Try.func77, Try.ntmps77
    go_wp2
    go_ret
    exact ⟨rfl, rfl⟩
end Go.Proofs.Ytcpmcgbjmncalaa.Tree

/- The walks of the landed tree's rightName, rightSpan, rightFields and rightKids. By an AI agent. -/
namespace Go.Proofs.Ytcpmcgbjmncalaa.Tree
open Go.RowKit Go.Proofs.Ytcpmcgbjmncalaa.Ints

/-- A node by value. -/
abbrev ndV (nd : Nd) (K : Option Addr) (m c : Nat) : Value := .agg #[.int .i64 nd.kind, .string nd.name, .int .i64 nd.lo, .int .i64 nd.hi, .slice K m c]
theorem box5 {w w' : World} {x0 x1 x2 x3 x4 : Value} {T : TypeId} (hb : Below (w.alloc (.cells #[x0, x1, x2, x3, x4] T)).heap.size (w.alloc (.cells #[x0, x1, x2, x3, x4] T)) w') :
    w'.cell? ⟨w.heap.size, 0, none⟩ = some x0 ∧ w'.cell? ⟨w.heap.size, 1, none⟩ = some x1 ∧ w'.cell? ⟨w.heap.size, 2, none⟩ = some x2 ∧ w'.cell? ⟨w.heap.size, 3, none⟩ = some x3 ∧ w'.cell? ⟨w.heap.size, 4, none⟩ = some x4 :=
  ⟨below_cell hb (box_cell 0 _ rfl), below_cell hb (box_cell 1 _ rfl), below_cell hb (box_cell 2 _ rfl), below_cell hb (box_cell 3 _ rfl), below_cell hb (box_cell 4 _ rfl)⟩
theorem below_box {w w' : World} {o : Obj} (hb : Below (w.alloc o).heap.size (w.alloc o) w') : Below w.heap.size w w' :=
  ((Below.refl _ _).alloc (Nat.le_refl _) o).trans (hb.mono (by simp))

set_option maxHeartbeats 1000000 in
theorem landRightName (nd : Nd) (K : Option Addr) (m c : Nat) (w : World) (hs : nd.name.size ≤ maxLen) :
    Calls Try.prog 75 #[ndV nd K m c] w fun e w' => e = .returned (.bool (nameOkB nd)) ∧ Below w.heap.size w w' := by
  unfold nameOkB
  by_cases h3 : nd.kind = 3
  · rw [if_pos h3]
    have h3' : (nd.kind == 3) = true := by rw [h3]; rfl
    have HN := Lib.hid (fun W => Lex.landName nd.name W hs)
    clear hs h3
    obtain ⟨b, hb⟩ : ∃ b, Lex.nameS nd.name.data.toList = b := ⟨_, rfl⟩
    rw [hb] at HN ⊢
    clear hb
    go_enter Try.func75, Try.ntmps75
    go_wp2_with (go_at_call 81; refine (HN.out _).mono ?_; rintro e w' ⟨rfl, rfl⟩)
    go_ret
    exact ⟨rfl, (Below.refl _ _).alloc (Nat.le_refl _) _⟩
  · rw [if_neg h3]
    have h3' : (nd.kind == 3) = false := beq_eq_false_iff_ne.2 h3
    clear hs h3
    by_cases hne : nd.name.data.toList = []
    · rw [decide_eq_true hne]
      have hn1 : nd.name.toList = [] := by rw [ByteArray.toList_eq]; exact hne
      have hn3 : nd.name.toList.isEmpty = true := by rw [hn1]; rfl
      clear hne
      go_enter Try.func75, Try.ntmps75
      go_wp2
      go_ret
      exact ⟨rfl, (Below.refl _ _).alloc (Nat.le_refl _) _⟩
    · rw [decide_eq_false hne]
      have hn3 : nd.name.toList.isEmpty = false := by
        rw [ByteArray.toList_eq]
        cases hh : nd.name.data.toList with
        | nil => exact absurd hh hne
        | cons x y => rfl
      clear hne
      go_enter Try.func75, Try.ntmps75
      go_wp2
      go_ret
      exact ⟨rfl, (Below.refl _ _).alloc (Nat.le_refl _) _⟩

set_option maxHeartbeats 1000000 in
theorem landRightSpan (nd : Nd) (K : Option Addr) (m c : Nat) (w : World) :
    Calls Try.prog 76 #[ndV nd K m c] w fun e w' => e = .returned (.bool (okSpan nd)) ∧ Below w.heap.size w w' := by
  unfold okSpan
  rcases htm : timed nd.kind
  · rw [if_neg (by decide)]
    have HSQ := Lib.hid (fun W => span_eql nd.lo nd.hi 0 0 W)
    have hways : decide (8 ≤ nd.kind) = false ∨ (decide (8 ≤ nd.kind) = true ∧ decide (nd.kind ≤ 17) = false) := by
      unfold timed at htm
      simp only [decide_eq_false_iff_not, decide_eq_true_iff] at htm ⊢
      omega
    obtain ⟨b, hb⟩ : ∃ b, decide (nd.lo = 0 ∧ nd.hi = 0) = b := ⟨_, rfl⟩
    rw [hb] at HSQ ⊢
    have HSQ1 := HSQ.out
    have hgs := guardSpan
    clear hb htm HSQ
    rcases hways with h8 | ⟨h8, h17⟩
    all_goals
      go_enter Try.func76, Try.ntmps76
      go_wp2
      go_ret
      exact ⟨rfl, (Below.refl _ _).alloc (Nat.le_refl _) _⟩
  · rw [if_pos rfl]
    have h8 : decide (8 ≤ nd.kind) = true := by unfold timed at htm; have := of_decide_eq_true htm; exact decide_eq_true this.1
    have h17 : decide (nd.kind ≤ 17) = true := by unfold timed at htm; have := of_decide_eq_true htm; exact decide_eq_true this.2
    have HM := Lib.hid (fun W => Ival.progMay nd.lo nd.hi W)
    obtain ⟨b, hb⟩ : ∃ b, Ival.mayS nd.lo nd.hi = b := ⟨_, rfl⟩
    rw [hb] at HM ⊢
    clear hb htm
    go_enter Try.func76, Try.ntmps76
    go_wp2_with (go_at_call 82; refine (HM.out _).mono ?_; rintro e w' ⟨rfl, hb1⟩)
    go_ret
    exact ⟨rfl, below_box hb1⟩

set_option maxHeartbeats 2000000 in
theorem landRightFields (nd : Nd) (K : Option Addr) (m c : Nat) (w : World) (hs : nd.name.size ≤ maxLen) :
    Calls Try.prog 64 #[ndV nd K m c] w fun e w' => e = .returned (.bool (fieldsB nd)) ∧ Below w.heap.size w w' := by
  unfold fieldsB
  have H1 := Lib.hid (fun W => landIsForm nd.kind W)
  have H2 := Lib.hid (fun W => landIsReg nd.kind W)
  have H3 := Lib.hid (fun W => landRightName nd K m c W hs)
  have H4 := Lib.hid (fun W => landRightSpan nd K m c W)
  clear hs
  obtain ⟨b1, h1⟩ : ∃ b, formKind nd.kind = b := ⟨_, rfl⟩
  obtain ⟨b2, h2⟩ : ∃ b, regKind nd.kind = b := ⟨_, rfl⟩
  obtain ⟨b3, h3⟩ : ∃ b, nameOkB nd = b := ⟨_, rfl⟩
  obtain ⟨b4, h4⟩ : ∃ b, okSpan nd = b := ⟨_, rfl⟩
  rw [h1] at H1
  rw [h2] at H2
  rw [h3] at H3
  rw [h4] at H4
  rw [h1, h2, h3, h4]
  clear h1 h2 h3 h4
  have key : (b1 = false ∧ b2 = false) ∨ ((b1 = true ∨ b1 = false ∧ b2 = true) ∧ b3 = false) ∨ ((b1 = true ∨ b1 = false ∧ b2 = true) ∧ b3 = true) := by cases b1 <;> cases b2 <;> cases b3 <;> simp
  rcases key with ⟨rfl, rfl⟩ | ⟨h, rfl⟩ | ⟨h, rfl⟩
  · go_enter Try.func64, Try.ntmps64
    go_wp2_with (first
      | (go_at_call 74; refine (H1.out _).mono ?_; rintro e w' ⟨rfl, rfl⟩)
      | (go_at_call 45; refine (H2.out _).mono ?_; rintro e w' ⟨rfl, rfl⟩))
    go_ret
    exact ⟨rfl, (Below.refl _ _).alloc (Nat.le_refl _) _⟩
  · rcases h with rfl | ⟨rfl, rfl⟩
    all_goals
      go_enter Try.func64, Try.ntmps64
      go_wp2_with (first
        | (go_at_call 74; refine (H1.out _).mono ?_; rintro e w' ⟨rfl, rfl⟩)
        | (go_at_call 45; refine (H2.out _).mono ?_; rintro e w' ⟨rfl, rfl⟩)
        | (go_at_call 75; refine (H3.out _).mono ?_; rintro e w1 ⟨rfl, hb1⟩))
      go_ret
      exact ⟨by first | rfl | (cases b2 <;> rfl), below_box hb1⟩
  · rcases h with rfl | ⟨rfl, rfl⟩
    all_goals
      go_enter Try.func64, Try.ntmps64
      go_wp2_with (first
        | (go_at_call 74; refine (H1.out _).mono ?_; rintro e w' ⟨rfl, rfl⟩)
        | (go_at_call 45; refine (H2.out _).mono ?_; rintro e w' ⟨rfl, rfl⟩)
        | (go_at_call 75; refine (H3.out _).mono ?_; rintro e w1 ⟨rfl, hb1⟩; obtain ⟨c0, c1, c2, c3, c4⟩ := box5 hb1)
        | (go_at_call 76; refine (H4.out _).mono ?_; rintro e w2 ⟨rfl, hb2⟩))
      go_ret
      exact ⟨by first | rfl | (cases b2 <;> rfl), (below_box hb1).trans (hb2.mono (below_box hb1).size)⟩
end Go.Proofs.Ytcpmcgbjmncalaa.Tree

/- The walk of the landed tree's rightKids. By an AI agent. -/
namespace Go.Proofs.Ytcpmcgbjmncalaa.Tree
open Go.RowKit Go.Proofs.Ytcpmcgbjmncalaa.Ints

theorem kids_stop {l : List Nd} {n : Nd} {j : Nat} {k : Int} (h : n.kids[j]? = some k) (hb : (regKind (kindAt l k) == takesReg n.kind) = false) : kidsB l n = false := by
  unfold kidsB
  rw [List.all_eq_false]
  exact ⟨k, List.mem_of_getElem? h, by rw [hb]; decide⟩
theorem kids_all {l : List Nd} {n : Nd} (h : ∀ (j : Nat) (k : Int), n.kids[j]? = some k → (regKind (kindAt l k) == takesReg n.kind) = true) : kidsB l n = true := by
  unfold kidsB
  rw [List.all_eq_true]
  intro k hk
  obtain ⟨j, hj, rfl⟩ := List.getElem_of_mem hk
  exact h j _ (List.getElem?_eq_getElem hj)

set_option maxHeartbeats 4000000 in
set_option maxRecDepth 100000 in
theorem landRightKids (A : Option Addr) (n c : Nat) (l : List Nd) (nd : Nd) (K : Option Addr) (m ck : Nat) (w : World) (hl : l.length = n) (hn : n ≤ 1048576) (h : Nodes Any w A l) (hm : nd.kids.length = m)
    (hK : Rd .i64 w K m nd.kids) (hm2 : m ≤ 1048576) (hk : ∀ k ∈ nd.kids, 0 ≤ k ∧ k < (n : Int)) :
    Calls Try.prog 65 #[.slice A n c, ndV nd K m ck] w fun e w' => e = .returned (.bool (kidsB l nd)) ∧ Below w.heap.size w w' := by
  have hni : (n : Int) ≤ 1048576 := by omega
  have hmi : (m : Int) ≤ 1048576 := by omega
  have HTR := Lib.hid (fun W => landTakesReg nd.kind W)
  have HL := Lib.hid hl
  have HD := Lib.hid h
  have HM := Lib.hid hm
  have HK := Lib.hid hK
  have HKB := Lib.hid hk
  obtain ⟨T, hT⟩ : ∃ t, takesReg nd.kind = t := ⟨_, rfl⟩
  rw [hT] at HTR
  have HT := Lib.hid hT
  clear hl h hm hK hk hT hn
  go_enter Try.func65, Try.ntmps65
  go_wp2
  go_loopw [10] (fun i wx => ∃ j : Nat, j ≤ m ∧ i = .int .i64 j ∧ Below w.heap.size w wx ∧ wx.cell? ⟨w.heap.size, 0, none⟩ = some (.int .i64 nd.kind) ∧ Hid (∀ (i : Nat) (k : Int), i < j → nd.kids[i]? = some k → (regKind (kindAt l k) == T) = true)) (fun i _ => m - (intOf i).toNat)
  case atStart => exact ⟨0, Nat.zero_le _, rfl, (Below.refl _ _).alloc (Nat.le_refl _) _, box_cell 0 _ rfl, fun i k hi => absurd hi (by omega)⟩
  case round =>
    obtain ⟨j, hj, rfl, hBx, hx0, HJ⟩ := hrel
    have HBX := Lib.hid hBx
    by_cases hjm : j < m
    · have hjm' : (j : Int) < (m : Int) := by omega
      have hj0 : (0 : Int) ≤ (j : Int) := by omega
      obtain ⟨kj, hkj⟩ : ∃ kj, nd.kids[j]? = some kj := ⟨_, List.getElem?_eq_getElem (by have := HM.out; omega)⟩
      obtain ⟨t0, t1⟩ := HKB.out kj (List.mem_of_getElem? hkj)
      obtain ⟨t, rfl⟩ := Int.eq_ofNat_of_zero_le t0
      obtain ⟨x, hx⟩ : ∃ x, l[t]? = some x := ⟨_, List.getElem?_eq_getElem (by have := HL.out; omega)⟩
      obtain ⟨bk, ok, eK, hkc⟩ := (HK.out.below hBx).cell (by omega)
      have ck1 := hkc j hjm
      rw [hkj, Option.getD_some] at ck1
      obtain ⟨b, off, eA, hnodes⟩ := (HD.out.below hBx) (by have := HL.out; omega)
      have cn := (hnodes t x hx).1
      rw [Nat.mul_comm] at cn
      have hka : kindAt l (t : Int) = x.kind := by unfold kindAt; rw [Int.toNat_natCast, hx]; rfl
      have HKA := Lib.hid hka
      have HKJ := Lib.hid hkj
      have HIR := Lib.hid (fun W => landIsReg x.kind W)
      subst eK
      subst eA
      obtain ⟨R, hR⟩ : ∃ r, regKind x.kind = r := ⟨_, rfl⟩
      rw [hR] at HIR
      have HR := Lib.hid hR
      clear hkc hnodes hkj hx hka hR hBx
      by_cases hRT : R = T
      · have HJ2 := Lib.hid (show ∀ (i : Nat) (k : Int), i < j + 1 → nd.kids[i]? = some k → (regKind (kindAt l k) == T) = true from fun i k hi h1 => by
          by_cases hij : i = j
          · subst hij
            have e1 := HKJ.out.symm.trans h1
            injection e1 with e1
            subst e1
            rw [HKA.out, HR.out, hRT]; simp
          · exact HJ.out i k (by omega) h1)
        subst hRT
        clear HR
        cases R
        all_goals
          go_wp2
          go_quiet ((first | (go_at_call 45; refine (HIR.out _).mono ?_; rintro e w' ⟨rfl, rfl⟩; exact ⟨rfl, _, rfl⟩) | (go_at_call 77; refine (HTR.out _).mono ?_; rintro e w' ⟨rfl, rfl⟩; exact ⟨rfl, _, rfl⟩)))
          go_wp2
          go_roundw
          case rel => exact ⟨j + 1, by omega, by go_num, below_drewN HBX.out _, hx0, HJ2⟩
          case measure => simp [intOf]; omega
      · have HF := Lib.hid (show kidsB l nd = false from kids_stop HKJ.out (by rw [HKA.out, HR.out, HT.out]; exact beq_eq_false_iff_ne.2 hRT))
        have hcase : (R = true ∧ T = false) ∨ (R = false ∧ T = true) := by cases R <;> cases T <;> simp at hRT ⊢
        clear HR HT hRT HJ
        rcases hcase with ⟨rfl, rfl⟩ | ⟨rfl, rfl⟩
        all_goals
          go_wp2
          go_quiet ((first | (go_at_call 45; refine (HIR.out _).mono ?_; rintro e w' ⟨rfl, rfl⟩; exact ⟨rfl, _, rfl⟩) | (go_at_call 77; refine (HTR.out _).mono ?_; rintro e w' ⟨rfl, rfl⟩; exact ⟨rfl, _, rfl⟩)))
          go_wp2
          go_ret
          exact ⟨by rw [HF.out]; rfl, below_drewN HBX.out _⟩
    · have hge : decide ((j : Int) < (m : Int)) = false := by simp; omega
      have HF := Lib.hid (show kidsB l nd = true from kids_all fun i k h1 => by rw [HT.out]; exact HJ.out i k (by have := (List.getElem?_eq_some_iff.1 h1).1; have := HM.out; omega) h1)
      clear hBx
      go_wp2
      go_ret
      exact ⟨by rw [HF.out]; rfl, HBX.out⟩
end Go.Proofs.Ytcpmcgbjmncalaa.Tree

namespace Go.Proofs
open Go.Shelf
def Try.lays112_ren : Go.Shelf.Ren := ⟨fun | 112 => 42 | n => n, fun | 28 => 27 | 3 => 3 | 4 => 4 | 0 => 0 | n => n, fun | n => n⟩
theorem Try.lays112 : Go.Proofs.Lays.n112 Try.prog Try.lays112_ren := {
  mixed := by kernel_rfl
  f112 := Try.func42.trans (congrArg some (by kernel_rfl))
  t0 := Try.underlying0
  a0 := Try.isAgg0
  z0 := Try.sizeOf0
  v0 := Try.zeroValue0
  t3 := Try.underlying3
  a3 := Try.isAgg3
  z3 := Try.sizeOf3
  v3 := Try.zeroValue3
  t4 := Try.underlying4
  a4 := Try.isAgg4
  z4 := Try.sizeOf4
  v4 := Try.zeroValue4
  t28 := Try.underlying27
  a28 := Try.isAgg27
  z28 := Try.sizeOf27
  v28 := Try.zeroValue27 }
open Go.RowKit Go.Lib Go.Sort in
open Go.RowKit Go.Lib Go.Sort in
open Go.RowKit Go.Lib Go.Sort in
def Try.lays111_ren : Go.Shelf.Ren := ⟨fun | 111 => 10 | n => n, fun | 28 => 27 | 3 => 3 | 4 => 4 | 0 => 0 | n => n, fun | n => n⟩
theorem Try.lays111 : Go.Proofs.Lays.n111 Try.prog Try.lays111_ren := {
  mixed := by kernel_rfl
  f111 := Try.func10.trans (congrArg some (by kernel_rfl))
  t0 := Try.underlying0
  a0 := Try.isAgg0
  z0 := Try.sizeOf0
  v0 := Try.zeroValue0
  t3 := Try.underlying3
  a3 := Try.isAgg3
  z3 := Try.sizeOf3
  v3 := Try.zeroValue3
  t4 := Try.underlying4
  a4 := Try.isAgg4
  z4 := Try.sizeOf4
  v4 := Try.zeroValue4
  t28 := Try.underlying27
  a28 := Try.isAgg27
  z28 := Try.sizeOf27
  v28 := Try.zeroValue27 }
open Go.RowKit Go.Lib in
/-- slices.Equal at []int: "Equal reports whether two slices are equal: the same length and all elements equal. If the lengths are different, Equal returns false. Otherwise, the elements are compared in increasing index order, and the comparison stops at the first unequal pair. Empty and nil slices are considered equal.": IT RETURNS WHETHER THE TWO LISTS OF ELEMENTS ARE ONE; the world is as it was but for the count of draws (the test 's1[i] != s2[i]' has two reads, whose order the model draws, once a round). 'xs', 'ys': what the cells behind the two addresses hold (the spare capacity too, if you have it); 'xs.take n', 'ys.take m': the elements. THE TWO SLICES MAY OVERLAP. (LAID: no walk: one application.) -/
theorem Try.slices_Equal_int (b1 o1 n c b2 o2 m d : Nat) (xs ys : List Int) (w : World) (hx : n ≤ xs.length) (hy : m ≤ ys.length) (hbig : n ≤ 9223372036854775807) (hbig2 : m ≤ 9223372036854775807) (hc1 : ∀ j, j < xs.length → w.cell? ⟨b1, o1 + j, none⟩ = some (.int .i64 (xs.getD j 0))) (hc2 : ∀ j, j < ys.length → w.cell? ⟨b2, o2 + j, none⟩ = some (.int .i64 (ys.getD j 0))) :
    Calls Try.prog 10 #[.slice (some ⟨b1, o1, none⟩) n c, .slice (some ⟨b2, o2, none⟩) m d] w fun e w' => e = .returned (.bool (xs.take n == ys.take m)) ∧ ∃ q, w' = w.drewN q := Any.slices_Equal_int Try.lays111 b1 o1 n c b2 o2 m d xs ys w hx hy hbig hbig2 hc1 hc2
open Go.RowKit Go.Lib in
/-- The same where the first is of length 0 (a nil one too): no cell is asked for. (LAID: no walk: one application.) -/
theorem Try.slices_Equal_int_empty (a1 a2 : Option Addr) (c m d : Nat) (w : World) (hbig2 : m ≤ 9223372036854775807) :
    Calls Try.prog 10 #[.slice a1 0 c, .slice a2 m d] w fun e w' => e = .returned (.bool (decide (m = 0))) ∧ w' = w := Any.slices_Equal_int_empty Try.lays111 a1 a2 c m d w hbig2
open Go.RowKit Go.Lib Go.Sort in
/-- slices.Reverse at []int, of an argument: the n cells hold the elements in reverse. (LAID: no walk: one application.) -/
theorem Try.slices_Reverse_int_cells (b off n c : Nat) (zs : List Int) (w : World) (hz : n ≤ zs.length) (hbig : n ≤ 9223372036854775807) (hc : ∀ j, j < zs.length → w.cell? ⟨b, off + j, none⟩ = some (.int .i64 (zs.getD j 0))) (hf : ∀ j, j < n → w.frozen? ⟨b, off + j, none⟩ = false) :
    Calls Try.prog 42 #[.slice (some ⟨b, off, none⟩) n c] w fun e w' => e = .returned (.tuple #[]) ∧ ∃ q, w' = (w.drewN q).setCells b off ((zs.take n).reverse.map (Value.int .i64)) := Any.slices_Reverse_int_cells Try.lays112 b off n c zs w hz hbig hc hf
open Go.RowKit Go.Lib in
theorem Try.slices_Equal_int_lens (a1 a2 : Option Addr) (n c m d : Nat) (w : World) (hnm : n ≠ m) :
    Calls Try.prog 10 #[.slice a1 n c, .slice a2 m d] w fun e w' => e = .returned (.bool false) ∧ w' = w := Any.slices_Equal_int_lens Try.lays111 a1 a2 n c m d w hnm
end Go.Proofs

namespace Go.Proofs.Ytcpmcgbjmncalaa.Tree
open Go.RowKit Go.Proofs.Ytcpmcgbjmncalaa.Ints

theorem equalInts (K1 K2 : Option Addr) (n1 c1 n2 c2 : Nat) (l1 l2 : List Int) (w : World) (h1 : Rd .i64 w K1 n1 l1) (h2 : Rd .i64 w K2 n2 l2) (hb1 : n1 ≤ maxLen) (hb2 : n2 ≤ maxLen) :
    Calls Try.prog 10 #[.slice K1 n1 c1, .slice K2 n2 c2] w fun e w' => e = .returned (.bool (decide (l1 = l2))) ∧ ∃ q, w' = w.drewN q := by
  have hm : maxLen = 9223372036854775807 := rfl
  by_cases hn : n1 = n2
  · subst hn
    by_cases h0 : n1 = 0
    · subst h0
      have e1 : l1 = [] := List.eq_nil_of_length_eq_zero h1.len
      have e2 : l2 = [] := List.eq_nil_of_length_eq_zero h2.len
      subst e1; subst e2
      exact (Try.slices_Equal_int_empty K1 K2 c1 0 c2 w (by omega)).mono fun e w' ⟨he, hw⟩ => ⟨he, 0, hw⟩
    · obtain ⟨b1, o1, rfl, k1⟩ := h1.cell (by omega)
      obtain ⟨b2, o2, rfl, k2⟩ := h2.cell (by omega)
      refine (Try.slices_Equal_int b1 o1 n1 c1 b2 o2 n1 c2 l1 l2 w (by rw [h1.len]; exact Nat.le_refl _) (by rw [h2.len]; exact Nat.le_refl _) (by omega) (by omega) (fun j hj => by have := k1 j (by rw [← h1.len]; exact hj); simpa [List.getD] using this) (fun j hj => by have := k2 j (by rw [← h2.len]; exact hj); simpa [List.getD] using this)).mono fun e w' ⟨he, hw⟩ => ⟨?_, hw⟩
      rw [he, List.take_of_length_le (by rw [h1.len]; exact Nat.le_refl _), List.take_of_length_le (by rw [h2.len]; exact Nat.le_refl _)]
      congr 2
      rw [Bool.eq_iff_iff, beq_iff_eq, decide_eq_true_iff]
  · have hne : decide (l1 = l2) = false := by
      rw [decide_eq_false_iff_not]
      intro e
      exact hn (by rw [← h1.len, ← h2.len, e])
    rw [hne]
    exact (Try.slices_Equal_int_lens K1 K2 n1 c1 n2 c2 w hn).mono fun e w' ⟨he, hw⟩ => ⟨he, 0, hw⟩

end Go.Proofs.Ytcpmcgbjmncalaa.Tree
