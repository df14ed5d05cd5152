/-
  What the landed program asks of a list of nodes, as plain functions; it is what may be. The walks of the landed tree's small functions: kidCount, isForm, isReg, takesReg. The walks of the landed ival's endless and May, for seats that hold May alone. The walks of the landed tree's rightName, rightSpan, rightFields and rightKids. The walk of the landed tree's rightKids.
    Made of several texts by wip/tools/mergetpl.py. By an AI agent.
  The landed judge in memory: its block, the row of its nodes' truth; take, kid (stage 15). By an AI agent.
  What the landed helpers reckon is the node's truth, kind by kind (stage 15). By an AI agent.
  Truth, told backwards (stage 15). By an AI agent.
-/
import Derived.Test.YtdbgaccnejffpaaGreatDoorGSatDual5
import Derived.Test.YtdbgaccnejffpaaGreatDoorGSatDual15
import Derived.Test.YtdbgaccnejffpaaGreatDoorGSatDual20
import Derived.Test.YtdbgaccnejffpaaGreatDoorGSatDual21
import Derived.Test.YtdbgaccnejffpaaGreatDoorGSatDual3
/- The walks of the landed tree's small functions: kidCount, isForm, isReg, takesReg. By an AI agent. -/
namespace Go.Proofs.YtdbgaccnejffpaaGreatDoor.Tree
open Go.RowKit
theorem kidc_ways (k : Int) : ((k = 1 ∨ k = 2 ∨ k = 3 ∨ k = 18) ∧ kidc k = 0) ∨ ((k = 5 ∨ k = 6 ∨ k = 7 ∨ k = 14 ∨ k = 15 ∨ k = 20 ∨ k = 21) ∧ kidc k = 2) ∨
  ((k == 1) = false ∧ (k == 2) = false ∧ (k == 3) = false ∧ (k == 18) = false ∧ (k == 5) = false ∧ (k == 6) = false ∧ (k == 7) = false ∧ (k == 14) = false ∧ (k == 15) = false ∧ (k == 20) = false ∧ (k == 21) = false ∧ kidc k = 1) := by
 by_cases h1 : k = 1 ∨ k = 2 ∨ k = 3 ∨ k = 18
 ·exact Or.inl ⟨h1, by unfold kidc; rw [if_pos (by simp only [none0, List.mem_cons, List.not_mem_nil, or_false]; exact h1)]⟩
 ·by_cases h2 : k = 5 ∨ k = 6 ∨ k = 7 ∨ k = 14 ∨ k = 15 ∨ k = 20 ∨ k = 21
  ·exact Or.inr (Or.inl ⟨h2, by unfold kidc; rw [if_neg (by simp only [none0, List.mem_cons, List.not_mem_nil, or_false]; exact h1), if_pos (by simp only [twos, List.mem_cons, List.not_mem_nil, or_false]; exact h2)]⟩)
  ·refine Or.inr (Or.inr ?_)
   simp only [beq_eq_false_iff_ne]
   refine ⟨by omega, by omega, by omega, by omega, by omega, by omega, by omega, by omega, by omega, by omega, by omega, ?_⟩
   unfold kidc
   rw [if_neg (by simp only [none0, List.mem_cons, List.not_mem_nil, or_false]; exact h1), if_neg (by simp only [twos, List.mem_cons, List.not_mem_nil, or_false]; exact h2)]
set_option maxHeartbeats 2000000 in
theorem landKidCount (k : Int) (w : World) :
  Calls Tryz.prog 50 #[.int .i64 k] w fun e w' => e = .returned (.int .i64 (kidc k : Int)) ∧ w' = w := by
 rcases kidc_ways k with ⟨h, -⟩ | ⟨h, -⟩ | ⟨a1, a2, a3, a4, a5, a6, a7, a8, a9, a10, a11, h⟩
 ·rcases h with rfl | rfl | rfl | rfl
  all_goals
   go_enter Tryz.func50, Tryz.ntmps50
   go_wp2
   go_ret
   exact ⟨rfl, rfl⟩
 ·rcases h with rfl | rfl | rfl | rfl | rfl | rfl | rfl
  all_goals
   go_enter Tryz.func50, Tryz.ntmps50
   go_wp2
   go_ret
   exact ⟨rfl, rfl⟩
 ·rw [h]
  clear h
  go_enter Tryz.func50, Tryz.ntmps50
  go_wp2
  go_ret
  exact ⟨rfl, rfl⟩
theorem landIsForm (k : Int) (w : World) :
  Calls Tryz.prog 31 #[.int .i64 k] w fun e w' => e = .returned (.bool (formKind k)) ∧ w' = w := by
 have h : formKind k = (decide (1 ≤ k) && decide (k ≤ 17)) := Bool.decide_and _ _
 rw [h]
 by_cases h1 : 1 ≤ k
 all_goals
  go_enter Tryz.func31, Tryz.ntmps31
  go_wp2
  go_ret
  exact ⟨by first | (simp [h1]; done) | (simp; omega), rfl⟩
theorem landIsReg (k : Int) (w : World) :
  Calls Tryz.prog 74 #[.int .i64 k] w fun e w' => e = .returned (.bool (regKind k)) ∧ w' = w := by
 have h : regKind k = (decide (18 ≤ k) && decide (k ≤ 22)) := Bool.decide_and _ _
 rw [h]
 by_cases h1 : 18 ≤ k
 all_goals
  go_enter Tryz.func74, Tryz.ntmps74
  go_wp2
  go_ret
  exact ⟨by first | (simp [h1]; done) | (simp; omega), rfl⟩
set_option maxHeartbeats 2000000 in
theorem landTakesReg (k : Int) (w : World) :
  Calls Tryz.prog 77 #[.int .i64 k] w fun e w' => e = .returned (.bool (takesReg k)) ∧ w' = w := by
 by_cases h : k = 16 ∨ k = 17 ∨ k = 20 ∨ k = 21 ∨ k = 22
 ·rcases h with rfl | rfl | rfl | rfl | rfl
  all_goals
   go_enter Tryz.func77, Tryz.ntmps77
   go_wp2
   go_ret
   exact ⟨rfl, rfl⟩
 ·have e : takesReg k = false := decide_eq_false (by simp only [regs, List.mem_cons, List.not_mem_nil, or_false]; exact h)
  rw [e]
  have a1 : (k == 16) = false := beq_eq_false_iff_ne.2 (by omega)
  have a2 : (k == 17) = false := beq_eq_false_iff_ne.2 (by omega)
  have a3 : (k == 20) = false := beq_eq_false_iff_ne.2 (by omega)
  have a4 : (k == 21) = false := beq_eq_false_iff_ne.2 (by omega)
  have a5 : (k == 22) = false := beq_eq_false_iff_ne.2 (by omega)
  clear e h
  go_enter Tryz.func77, Tryz.ntmps77
  go_wp2
  go_ret
  exact ⟨rfl, rfl⟩
end Go.Proofs.YtdbgaccnejffpaaGreatDoor.Tree
/- The walks of the landed tree's rightName, rightSpan, rightFields and rightKids. By an AI agent. -/
namespace Go.Proofs.YtdbgaccnejffpaaGreatDoor.Tree
open Go.RowKit Go.Proofs.YtdbgaccnejffpaaGreatDoor.Ints
abbrev ndV (nd : Nd) (K : Option Addr) (m c : Nat) : Value := .agg #[.int .i64 nd.kind, .string nd.name, .int .i64 nd.lo, .int .i64 nd.hi, .slice K m c]
theorem box5 {w w' : World} {x0 x1 x2 x3 x4 : Value} {T : TypeId} (hb : Below (w.alloc (.cells #[x0, x1, x2, x3, x4] T)).heap.size (w.alloc (.cells #[x0, x1, x2, x3, x4] T)) w') :
  w'.cell? ⟨w.heap.size, 0, none⟩ = some x0 ∧ w'.cell? ⟨w.heap.size, 1, none⟩ = some x1 ∧ w'.cell? ⟨w.heap.size, 2, none⟩ = some x2 ∧ w'.cell? ⟨w.heap.size, 3, none⟩ = some x3 ∧ w'.cell? ⟨w.heap.size, 4, none⟩ = some x4 :=
 ⟨below_cell hb (box_cell 0 _ rfl), below_cell hb (box_cell 1 _ rfl), below_cell hb (box_cell 2 _ rfl), below_cell hb (box_cell 3 _ rfl), below_cell hb (box_cell 4 _ rfl)⟩
theorem below_box {w w' : World} {o : Obj} (hb : Below (w.alloc o).heap.size (w.alloc o) w') : Below w.heap.size w w' :=
 ((Below.refl _ _).alloc (Nat.le_refl _) o).trans (hb.mono (by simp))
set_option maxHeartbeats 1000000 in
theorem landRightName (nd : Nd) (K : Option Addr) (m c : Nat) (w : World) (hs : nd.name.size ≤ maxLen) :
  Calls Tryz.prog 75 #[ndV nd K m c] w fun e w' => e = .returned (.bool (nameOkB nd)) ∧ Below w.heap.size w w' := by
 unfold nameOkB
 by_cases h3 : nd.kind = 3
 ·rw [if_pos h3]
  have h3' : (nd.kind == 3) = true := by rw [h3]; rfl
  have HN := Lib.hid (fun W => Lex.landName nd.name W hs)
  clear hs h3
  obtain ⟨b, hb⟩ : ∃ b, Lex.nameS nd.name.data.toList = b := ⟨_, rfl⟩
  rw [hb] at HN ⊢
  clear hb
  go_enter Tryz.func75, Tryz.ntmps75
  go_wp2_with (go_at_call 48; refine (HN.out _).mono ?_; rintro e w' ⟨rfl, rfl⟩)
  go_ret
  exact ⟨rfl, (Below.refl _ _).alloc (Nat.le_refl _) _⟩
 ·rw [if_neg h3]
  have h3' : (nd.kind == 3) = false := beq_eq_false_iff_ne.2 h3
  clear hs h3
  by_cases hne : nd.name.data.toList = []
  ·rw [decide_eq_true hne]
   have hn1 : nd.name.toList = [] := by rw [ByteArray.toList_eq]; exact hne
   have hn3 : nd.name.toList.isEmpty = true := by rw [hn1]; rfl
   clear hne
   go_enter Tryz.func75, Tryz.ntmps75
   go_wp2
   go_ret
   exact ⟨rfl, (Below.refl _ _).alloc (Nat.le_refl _) _⟩
  ·rw [decide_eq_false hne]
   have hn3 : nd.name.toList.isEmpty = false := by
    rw [ByteArray.toList_eq]
    cases hh : nd.name.data.toList with
    | nil => exact absurd hh hne
    | cons x y => rfl
   clear hne
   go_enter Tryz.func75, Tryz.ntmps75
   go_wp2
   go_ret
   exact ⟨rfl, (Below.refl _ _).alloc (Nat.le_refl _) _⟩
set_option maxHeartbeats 1000000 in
theorem landRightSpan (nd : Nd) (K : Option Addr) (m c : Nat) (w : World) :
  Calls Tryz.prog 76 #[ndV nd K m c] w fun e w' => e = .returned (.bool (okSpan nd)) ∧ Below w.heap.size w w' := by
 unfold okSpan
 rcases htm : timed nd.kind
 ·rw [if_neg (by decide)]
  have HSQ := Lib.hid (fun W => span_eql nd.lo nd.hi 0 0 W)
  have hways : decide (8 ≤ nd.kind) = false ∨ (decide (8 ≤ nd.kind) = true ∧ decide (nd.kind ≤ 17) = false) := by
   unfold timed at htm
   simp only [decide_eq_false_iff_not, decide_eq_true_iff] at htm ⊢
   omega
  obtain ⟨b, hb⟩ : ∃ b, decide (nd.lo = 0 ∧ nd.hi = 0) = b := ⟨_, rfl⟩
  rw [hb] at HSQ ⊢
  have HSQ1 := HSQ.out
  have hgs := guardSpan
  clear hb htm HSQ
  rcases hways with h8 | ⟨h8, h17⟩
  all_goals
   go_enter Tryz.func76, Tryz.ntmps76
   go_wp2
   go_ret
   exact ⟨rfl, (Below.refl _ _).alloc (Nat.le_refl _) _⟩
 ·rw [if_pos rfl]
  have h8 : decide (8 ≤ nd.kind) = true := by unfold timed at htm; have := of_decide_eq_true htm; exact decide_eq_true this.1
  have h17 : decide (nd.kind ≤ 17) = true := by unfold timed at htm; have := of_decide_eq_true htm; exact decide_eq_true this.2
  have HM := Lib.hid (fun W => Ival.progMay nd.lo nd.hi W)
  obtain ⟨b, hb⟩ : ∃ b, Ival.mayS nd.lo nd.hi = b := ⟨_, rfl⟩
  rw [hb] at HM ⊢
  clear hb htm
  go_enter Tryz.func76, Tryz.ntmps76
  go_wp2_with (go_at_call 79; refine (HM.out _).mono ?_; rintro e w' ⟨rfl, hb1⟩)
  go_ret
  exact ⟨rfl, below_box hb1⟩
set_option maxHeartbeats 2000000 in
theorem landRightFields (nd : Nd) (K : Option Addr) (m c : Nat) (w : World) (hs : nd.name.size ≤ maxLen) :
  Calls Tryz.prog 52 #[ndV nd K m c] w fun e w' => e = .returned (.bool (fieldsB nd)) ∧ Below w.heap.size w w' := by
 unfold fieldsB
 have H1 := Lib.hid (fun W => landIsForm nd.kind W)
 have H2 := Lib.hid (fun W => landIsReg nd.kind W)
 have H3 := Lib.hid (fun W => landRightName nd K m c W hs)
 have H4 := Lib.hid (fun W => landRightSpan nd K m c W)
 clear hs
 obtain ⟨b1, h1⟩ : ∃ b, formKind nd.kind = b := ⟨_, rfl⟩
 obtain ⟨b2, h2⟩ : ∃ b, regKind nd.kind = b := ⟨_, rfl⟩
 obtain ⟨b3, h3⟩ : ∃ b, nameOkB nd = b := ⟨_, rfl⟩
 obtain ⟨b4, h4⟩ : ∃ b, okSpan nd = b := ⟨_, rfl⟩
 rw [h1] at H1
 rw [h2] at H2
 rw [h3] at H3
 rw [h4] at H4
 rw [h1, h2, h3, h4]
 clear h1 h2 h3 h4
 have key : (b1 = false ∧ b2 = false) ∨ ((b1 = true ∨ b1 = false ∧ b2 = true) ∧ b3 = false) ∨ ((b1 = true ∨ b1 = false ∧ b2 = true) ∧ b3 = true) := by cases b1 <;> cases b2 <;> cases b3 <;> simp
 rcases key with ⟨rfl, rfl⟩ | ⟨h, rfl⟩ | ⟨h, rfl⟩
 ·go_enter Tryz.func52, Tryz.ntmps52
  go_wp2_with (first
   | (go_at_call 31; refine (H1.out _).mono ?_; rintro e w' ⟨rfl, rfl⟩)
   | (go_at_call 74; refine (H2.out _).mono ?_; rintro e w' ⟨rfl, rfl⟩))
  go_ret
  exact ⟨rfl, (Below.refl _ _).alloc (Nat.le_refl _) _⟩
 ·rcases h with rfl | ⟨rfl, rfl⟩
  all_goals
   go_enter Tryz.func52, Tryz.ntmps52
   go_wp2_with (first
    | (go_at_call 31; refine (H1.out _).mono ?_; rintro e w' ⟨rfl, rfl⟩)
    | (go_at_call 74; refine (H2.out _).mono ?_; rintro e w' ⟨rfl, rfl⟩)
    | (go_at_call 75; refine (H3.out _).mono ?_; rintro e w1 ⟨rfl, hb1⟩))
   go_ret
   exact ⟨by first | rfl | (cases b2 <;> rfl), below_box hb1⟩
 ·rcases h with rfl | ⟨rfl, rfl⟩
  all_goals
   go_enter Tryz.func52, Tryz.ntmps52
   go_wp2_with (first
    | (go_at_call 31; refine (H1.out _).mono ?_; rintro e w' ⟨rfl, rfl⟩)
    | (go_at_call 74; refine (H2.out _).mono ?_; rintro e w' ⟨rfl, rfl⟩)
    | (go_at_call 75; refine (H3.out _).mono ?_; rintro e w1 ⟨rfl, hb1⟩; obtain ⟨c0, c1, c2, c3, c4⟩ := box5 hb1)
    | (go_at_call 76; refine (H4.out _).mono ?_; rintro e w2 ⟨rfl, hb2⟩))
   go_ret
   exact ⟨by first | rfl | (cases b2 <;> rfl), (below_box hb1).trans (hb2.mono (below_box hb1).size)⟩
end Go.Proofs.YtdbgaccnejffpaaGreatDoor.Tree
/- The walk of the landed tree's rightKids. By an AI agent. -/
namespace Go.Proofs.YtdbgaccnejffpaaGreatDoor.Tree
open Go.RowKit Go.Proofs.YtdbgaccnejffpaaGreatDoor.Ints
theorem kids_stop {l : List Nd} {n : Nd} {j : Nat} {k : Int} (h : n.kids[j]? = some k) (hb : (regKind (kindAt l k) == takesReg n.kind) = false) : kidsB l n = false := by
 unfold kidsB
 rw [List.all_eq_false]
 exact ⟨k, List.mem_of_getElem? h, by rw [hb]; decide⟩
theorem kids_all {l : List Nd} {n : Nd} (h : ∀ (j : Nat) (k : Int), n.kids[j]? = some k → (regKind (kindAt l k) == takesReg n.kind) = true) : kidsB l n = true := by
 unfold kidsB
 rw [List.all_eq_true]
 intro k hk
 obtain ⟨j, hj, rfl⟩ := List.getElem_of_mem hk
 exact h j _ (List.getElem?_eq_getElem hj)
set_option maxHeartbeats 4000000 in
set_option maxRecDepth 100000 in
theorem landRightKids (A : Option Addr) (n c : Nat) (l : List Nd) (nd : Nd) (K : Option Addr) (m ck : Nat) (w : World) (hl : l.length = n) (hn : n ≤ 1048576) (h : Nodes Any w A l) (hm : nd.kids.length = m)
  (hK : Rd .i64 w K m nd.kids) (hm2 : m ≤ 1048576) (hk : ∀ k ∈ nd.kids, 0 ≤ k ∧ k < (n : Int)) :
  Calls Tryz.prog 53 #[.slice A n c, ndV nd K m ck] w fun e w' => e = .returned (.bool (kidsB l nd)) ∧ Below w.heap.size w w' := by
 have hni : (n : Int) ≤ 1048576 := by omega
 have hmi : (m : Int) ≤ 1048576 := by omega
 have HTR := Lib.hid (fun W => landTakesReg nd.kind W)
 have HL := Lib.hid hl
 have HD := Lib.hid h
 have HM := Lib.hid hm
 have HK := Lib.hid hK
 have HKB := Lib.hid hk
 obtain ⟨T, hT⟩ : ∃ t, takesReg nd.kind = t := ⟨_, rfl⟩
 rw [hT] at HTR
 have HT := Lib.hid hT
 clear hl h hm hK hk hT hn
 go_enter Tryz.func53, Tryz.ntmps53
 go_wp2
 go_loopw [10] (fun i wx => ∃ j : Nat, j ≤ m ∧ i = .int .i64 j ∧ Below w.heap.size w wx ∧ wx.cell? ⟨w.heap.size, 0, none⟩ = some (.int .i64 nd.kind) ∧ Hid (∀ (i : Nat) (k : Int), i < j → nd.kids[i]? = some k → (regKind (kindAt l k) == T) = true)) (fun i _ => m - (intOf i).toNat)
 case atStart => exact ⟨0, Nat.zero_le _, rfl, (Below.refl _ _).alloc (Nat.le_refl _) _, box_cell 0 _ rfl, fun i k hi => absurd hi (by omega)⟩
 case round =>
  obtain ⟨j, hj, rfl, hBx, hx0, HJ⟩ := hrel
  have HBX := Lib.hid hBx
  by_cases hjm : j < m
  ·have hjm' : (j : Int) < (m : Int) := by omega
   have hj0 : (0 : Int) ≤ (j : Int) := by omega
   obtain ⟨kj, hkj⟩ : ∃ kj, nd.kids[j]? = some kj := ⟨_, List.getElem?_eq_getElem (by have := HM.out; omega)⟩
   obtain ⟨t0, t1⟩ := HKB.out kj (List.mem_of_getElem? hkj)
   obtain ⟨t, rfl⟩ := Int.eq_ofNat_of_zero_le t0
   obtain ⟨x, hx⟩ : ∃ x, l[t]? = some x := ⟨_, List.getElem?_eq_getElem (by have := HL.out; omega)⟩
   obtain ⟨bk, ok, eK, hkc⟩ := (HK.out.below hBx).cell (by omega)
   have ck1 := hkc j hjm
   rw [hkj, Option.getD_some] at ck1
   obtain ⟨b, off, eA, hnodes⟩ := (HD.out.below hBx) (by have := HL.out; omega)
   have cn := (hnodes t x hx).1
   rw [Nat.mul_comm] at cn
   have hka : kindAt l (t : Int) = x.kind := by unfold kindAt; rw [Int.toNat_natCast, hx]; rfl
   have HKA := Lib.hid hka
   have HKJ := Lib.hid hkj
   have HIR := Lib.hid (fun W => landIsReg x.kind W)
   subst eK
   subst eA
   obtain ⟨R, hR⟩ : ∃ r, regKind x.kind = r := ⟨_, rfl⟩
   rw [hR] at HIR
   have HR := Lib.hid hR
   clear hkc hnodes hkj hx hka hR hBx
   by_cases hRT : R = T
   ·have HJ2 := Lib.hid (show ∀ (i : Nat) (k : Int), i < j + 1 → nd.kids[i]? = some k → (regKind (kindAt l k) == T) = true from fun i k hi h1 => by
     by_cases hij : i = j
     ·subst hij
      have e1 := HKJ.out.symm.trans h1
      injection e1 with e1
      subst e1
      rw [HKA.out, HR.out, hRT]; simp
     ·exact HJ.out i k (by omega) h1)
    subst hRT
    clear HR
    cases R
    all_goals
     go_wp2
     go_quiet ((first | (go_at_call 74; refine (HIR.out _).mono ?_; rintro e w' ⟨rfl, rfl⟩; exact ⟨rfl, _, rfl⟩) | (go_at_call 77; refine (HTR.out _).mono ?_; rintro e w' ⟨rfl, rfl⟩; exact ⟨rfl, _, rfl⟩)))
     go_wp2
     go_roundw
     case rel => exact ⟨j + 1, by omega, by go_num, below_drewN HBX.out _, hx0, HJ2⟩
     case measure => simp [intOf]; omega
   ·have HF := Lib.hid (show kidsB l nd = false from kids_stop HKJ.out (by rw [HKA.out, HR.out, HT.out]; exact beq_eq_false_iff_ne.2 hRT))
    have hcase : (R = true ∧ T = false) ∨ (R = false ∧ T = true) := by cases R <;> cases T <;> simp at hRT ⊢
    clear HR HT hRT HJ
    rcases hcase with ⟨rfl, rfl⟩ | ⟨rfl, rfl⟩
    all_goals
     go_wp2
     go_quiet ((first | (go_at_call 74; refine (HIR.out _).mono ?_; rintro e w' ⟨rfl, rfl⟩; exact ⟨rfl, _, rfl⟩) | (go_at_call 77; refine (HTR.out _).mono ?_; rintro e w' ⟨rfl, rfl⟩; exact ⟨rfl, _, rfl⟩)))
     go_wp2
     go_ret
     exact ⟨by rw [HF.out]; rfl, below_drewN HBX.out _⟩
  ·have hge : decide ((j : Int) < (m : Int)) = false := by simp; omega
   have HF := Lib.hid (show kidsB l nd = true from kids_all fun i k h1 => by rw [HT.out]; exact HJ.out i k (by have := (List.getElem?_eq_some_iff.1 h1).1; have := HM.out; omega) h1)
   clear hBx
   go_wp2
   go_ret
   exact ⟨by rw [HF.out]; rfl, HBX.out⟩
end Go.Proofs.YtdbgaccnejffpaaGreatDoor.Tree

namespace Go.Proofs.YtdbgaccnejffpaaGreatDoor.Sat
open Go.RowKit Go.Proofs.YtdbgaccnejffpaaGreatDoor.Ints Go.Proofs.YtdbgaccnejffpaaGreatDoor.Mem Go.Proofs.YtdbgaccnejffpaaGreatDoor.Src Go.Proofs.YtdbgaccnejffpaaGreatDoor.Paths Go.Proofs.YtdbgaccnejffpaaGreatDoor.Late Go.Proofs.YtdbgaccnejffpaaGreatDoor.Trace
noncomputable def tvB (J : Jd) (i p : Nat) : Bool := @decide (sem (tmOf J.t) (foI J.l i) p p) (Classical.propDecidable _)
theorem tv_iff (J : Jd) (i p : Nat) : tvB J i p = true ↔ sem (tmOf J.t) (foI J.l i) p p := @decide_eq_true_iff _ (Classical.propDecidable _)
theorem tv_eq {J : Jd} {i p : Nat} {b : Bool} (h : sem (tmOf J.t) (foI J.l i) p p ↔ b = true) : tvB J i p = b := by
 rw [Bool.eq_iff_iff, tv_iff]
 exact h
structure JS (J : Jd) (w0 : World) (σ : List Value) (W : World) : Prop where
 tr : TrOk Any w0 J.NA J.nn J.nc J.EA J.n J.ec J.t
 nodes : Tree.Nodes Tree.Any w0 J.LA J.l
 lcap : J.l.length ≤ J.lc ∧ J.lc ≤ maxLen
 mt : mayT J.t = true
 ml : Tree.mayL J.l = true
 hn : J.n ≤ 64
 hl : J.l.length ≤ 1000
 low : Below w0.heap.size w0 W
 blk : Blk W J.gj [.slice J.NA J.nn J.nc, .slice J.EA J.n J.ec, .slice J.LA J.l.length J.lc, .slice (some ⟨J.bt, 0, none⟩) J.l.length J.l.length]
 row : W.ownsRow w0.heap.size 52 1 (.slice (some ⟨J.bt, 0, none⟩) J.l.length J.l.length) J.l.length σ
 hg : w0.heap.size ≤ J.gj
 ne : J.gj ≠ J.bt
section
variable {J : Jd} {w0 W W' : World} {σ : List Value}
theorem JS.jw (h : JS J w0 σ W) : JW J W :=
 ⟨h.blk.cell 0 rfl, h.blk.cell 1 rfl, h.blk.cell 2 rfl, h.blk.cell 3 rfl, h.tr.below h.low, h.nodes.below h.low, h.lcap, h.mt, h.ml, h.hn, h.hl⟩
theorem JS.len (h : JS J w0 σ W) : σ.length = J.l.length := by have := h.row.1; rwa [Nat.mul_one] at this
theorem JS.bt0 (h : JS J w0 σ W) : w0.heap.size ≤ J.bt ∧ J.bt < W.heap.size := World.ownsRow.lt h.row J.bt rfl
theorem JS.later (h : JS J w0 σ W) (hb : Below W.heap.size W W') : JS J w0 σ W' :=
 ⟨h.tr, h.nodes, h.lcap, h.mt, h.ml, h.hn, h.hl, h.low.trans (hb.mono h.low.size), h.blk.later hb, below_row h.row hb, h.hg, h.ne⟩
theorem JS.kept {o : Nat} (h : JS J w0 σ W) (hg : W.grownBy W' (some o)) (h0 : w0.heap.size ≤ o) (h1 : J.gj ≠ o) (h2 : J.bt ≠ o) : JS J w0 σ W' :=
 ⟨h.tr, h.nodes, h.lcap, h.mt, h.ml, h.hn, h.hl, h.low.trans ⟨hg.os, hg.tape, hg.output, hg.size, fun k hk => hg.block k (by have := h.low.size; omega) (fun e => by injection e; omega)⟩, h.blk.grown hg (fun e => h1 (by injection e)), World.ownsRow.kept h.row hg (.inr (fun e => h2 (by injection e))), h.hg, h.ne⟩
theorem JS.put (h : JS J w0 σ W) (i : Nat) (v : Value) : JS J w0 (σ.set i v) (W.setCell ⟨J.bt, i, none⟩ v) :=
 ⟨h.tr, h.nodes, h.lcap, h.mt, h.ml, h.hn, h.hl, h.low.setCell (p := ⟨J.bt, i, none⟩) h.bt0.1 v, h.blk.other _ _ h.ne, own_put h.row v, h.hg, h.ne⟩
theorem JS.at (h : JS J w0 σ W) {i : Nat} {v : Value} (hv : σ[i]? = some v) : W.cell? ⟨J.bt, i, none⟩ = some v := by
 have := World.ownsRow.cells h.row (g := J.bt) rfl i v hv
 rwa [Addr.add_lit, Nat.zero_add] at this
end
theorem grown_any {w w' : World} {o : Nat} (h : Below w.heap.size w w') : w.grownBy w' (some o) := ⟨h.os, h.tape, h.output, h.size, fun k hk _ => h.block k hk⟩
theorem cell_grown {w w' : World} {b k o : Nat} {u : Value} (hg : w.grownBy w' (some o)) (h : w.cell? ⟨b, k, none⟩ = some u) (hne : b ≠ o) : w'.cell? ⟨b, k, none⟩ = some u := hg.cell h (fun e => hne (by injection e))
def Tv (J : Jd) (W : World) (i : Nat) (v : Value) : Prop := ∃ b, v = .slice (some ⟨b, 0, none⟩) J.n J.n ∧ b ≠ J.bt ∧ b < W.heap.size ∧ RB W b J.n (tvB J i) ∧ OB W J.gj b J.n (tvB J i)
theorem Tv.grown {J : Jd} {W W' : World} {i : Nat} {v : Value} (h : Tv J W i v) (hg : W.grownBy W' (some J.bt)) : Tv J W' i v := by
 obtain ⟨b, e, hne, hlt, hr, ho⟩ := h
 exact ⟨b, e, hne, Nat.lt_of_lt_of_le hlt hg.size, hr.grown hg hne, ho.same (hg.block b hlt (fun e => hne (by injection e)))⟩
def Live (J : Jd) (k : Nat) (σ : List Value) (W : World) : Prop := ∀ i, i < k → ¬ dead J.l k i → (Tree.formKind (kindN J.l i) = true ∨ kindN J.l i = 19) → ∃ v, σ[i]? = some v ∧ Tv J W i v
theorem Live.grown {J : Jd} {k : Nat} {σ : List Value} {W W' : World} (h : Live J k σ W) (hg : W.grownBy W' (some J.bt)) : Live J k σ W' := fun i h1 h2 h3 => by
 obtain ⟨v, e, ht⟩ := h i h1 h2 h3
 exact ⟨v, e, ht.grown hg⟩
structure Nv (J : Jd) (w0 : World) (k : Nat) (nd : Tree.Nd) (K : Option Addr) (m c : Nat) : Prop where
 hk : J.l[k]? = some nd
 len : m = Tree.kidc nd.kind
 cap : m ≤ c
 kids : ∀ j, j < m → ∃ b o, K = some ⟨b, o, none⟩ ∧ w0.cell? ⟨b, o + j, none⟩ = some (.int .i64 ((kidN J.l k j : Nat) : Int)) ∧ kidN J.l k j < k
theorem JS.node {J : Jd} {w0 W : World} {σ : List Value} (h : JS J w0 σ W) {k : Nat} (hk : k < J.l.length) : ∃ (b off : Nat) (nd : Tree.Nd) (K : Option Addr) (m c : Nat), J.LA = some ⟨b, off, none⟩ ∧ Nv J w0 k nd K m c ∧ c ≤ maxLen ∧ nd.name.size ≤ maxLen ∧
  w0.cell? ⟨b, off + k * 5, none⟩ = some (.int .i64 nd.kind) ∧ w0.cell? ⟨b, off + k * 5 + 1, none⟩ = some (.string nd.name) ∧ w0.cell? ⟨b, off + k * 5 + 2, none⟩ = some (.int .i64 nd.lo) ∧ w0.cell? ⟨b, off + k * 5 + 3, none⟩ = some (.int .i64 nd.hi) ∧ w0.cell? ⟨b, off + k * 5 + 4, none⟩ = some (.slice K m c) := by
 obtain ⟨b, off, e, hns⟩ := h.nodes (by omega)
 obtain ⟨nd, hnd⟩ : ∃ nd, J.l[k]? = some nd := ⟨_, List.getElem?_eq_getElem hk⟩
 obtain ⟨x0, x1, x2, x3, s0, s2, s3, s1, K, cK, x4, xr, hc, hcm, -⟩ := hns k nd hnd
 rw [Nat.mul_comm 5 k] at x0 x1 x2 x3 x4
 obtain ⟨st, hO, hz, hl, -, -⟩ := node_over h.ml hnd
 have hlen : nd.kids.length = Tree.kidc nd.kind := by rw [hz]; unfold Tree.zints; rw [List.length_map, hl]
 refine ⟨b, off, nd, K, nd.kids.length, cK, e, ⟨hnd, hlen, hc, fun j hj => ?_⟩, hcm, s1, x0, x1, x2, x3, x4⟩
 obtain ⟨Kb, ko, rfl, hcs⟩ := Rd.cell xr (by omega)
 have hkd := kind_of hnd
 have hlt : kidN J.l k j < k := by
  rcases kidc_ways nd.kind with e | e | e
  ·omega
  ·obtain rfl : j = 0 := by omega
   exact kidN_one h.ml hk (by rw [hkd]; exact e)
  ·obtain ⟨a1, a2⟩ := kidN_two h.ml hk (by rw [hkd]; exact e)
   obtain rfl | rfl : j = 0 ∨ j = 1 := by omega
   ·exact a1
   ·exact a2
 refine ⟨Kb, ko, rfl, ?_, hlt⟩
 have h2 := hcs j hj
 have hz0 : 0 ≤ nd.kids[j]?.getD 0 := by
  rw [hz]
  unfold Tree.zints
  rw [List.getElem?_map]
  cases st[j]? with
  | none => exact Int.le_refl _
  | some z => exact Int.natCast_nonneg z
 have hkN : ((kidN J.l k j : Nat) : Int) = nd.kids[j]?.getD 0 := by
  unfold kidN
  rw [hnd]
  show (((nd.kids[j]?.getD 0).toNat : Nat) : Int) = _
  omega
 rw [hkN]
 exact h2
set_option maxHeartbeats 8000000 in
set_option maxRecDepth 100000 in
theorem landTake (J : Jd) (w0 : World) (σ : List Value) (i : Nat) (A : Option Addr) (q c : Nat) (w : World) (h : JS J w0 σ w) (hi : i < J.l.length) (hv : σ[i]? = some (.slice A q c)) :
  Calls Tryz.prog 25 #[.pointer (some ⟨J.gj, 0, none⟩), .int .i64 ((i : Nat) : Int)] w fun e w' => e = .returned (.slice A q c) ∧ JS J w0 (σ.set i (.slice none 0 0)) w' ∧ w.grownBy w' (some J.bt) := by
 have HP := Lib.hid (h.put i (.slice none 0 0))
 have HG := Lib.hid (grown_cell w ⟨J.bt, i, none⟩ (.slice none 0 0))
 have c3 := h.blk.cell 3 rfl
 have x1 := h.at hv
 have f1 := own_fz h.row i
 have hii : ((i : Nat) : Int) < ((J.l.length : Nat) : Int) := by omega
 obtain ⟨g, hg⟩ : ∃ g, J.gj = g := ⟨_, rfl⟩
 obtain ⟨t, ht⟩ : ∃ t, J.bt = t := ⟨_, rfl⟩
 obtain ⟨n, hn⟩ : ∃ n, J.l.length = n := ⟨_, rfl⟩
 rw [hg] at c3 ⊢
 rw [ht] at c3 x1 f1 HP HG ⊢
 rw [hn] at c3 hii
 clear h hv hi hg hn ht
 go_enter Tryz.func25, Tryz.ntmps25
 go_wp2_with fail
 go_ret
 exact ⟨rfl, HP.out, HG.out⟩
set_option maxHeartbeats 8000000 in
set_option maxRecDepth 100000 in
theorem landKid (J : Jd) (w0 : World) (σ : List Value) (k j : Nat) (nd : Tree.Nd) (K : Option Addr) (m c : Nat) (A : Option Addr) (q d : Nat) (w : World) (h : JS J w0 σ w) (hnv : Nv J w0 k nd K m c) (hj : j < m) (hv : σ[kidN J.l k j]? = some (.slice A q d)) :
  Calls Tryz.prog 36 #[.pointer (some ⟨J.gj, 0, none⟩), Tree.ndV nd K m c, .int .i64 ((j : Nat) : Int)] w fun e w' => e = .returned (.slice A q d) ∧ JS J w0 (σ.set (kidN J.l k j) (.slice none 0 0)) w' ∧ w.grownBy w' (some J.bt) := by
 obtain ⟨b, o, rfl, x1, hlt⟩ := hnv.kids j hj
 have hkl := (List.getElem?_eq_some_iff.1 hnv.hk).1
 obtain ⟨W, hW⟩ : ∃ W, w.alloc (.cells #[.int .i64 nd.kind, .string nd.name, .int .i64 nd.lo, .int .i64 nd.hi, .slice (some ⟨b, o, none⟩) m c] 37) = W := ⟨_, rfl⟩
 have hbW : Below w.heap.size w W := by rw [← hW]; exact (Below.refl _ _).alloc (Nat.le_refl _) _
 have d4 : W.cell? ⟨w.heap.size, 4, none⟩ = some (.slice (some ⟨b, o, none⟩) m c) := by rw [← hW]; exact box_cell 4 _ rfl
 have y1 := below_cell hbW (below_cell h.low x1)
 obtain ⟨z, hz⟩ : ∃ z, kidN J.l k j = z := ⟨_, rfl⟩
 rw [hz] at y1 hv hlt ⊢
 have HT := Lib.hid (landTake J w0 σ z A q d W (h.later hbW) (by omega) hv)
 have HG := Lib.hid (grown_any (o := J.bt) hbW)
 have hji : ((j : Nat) : Int) < ((m : Nat) : Int) := by omega
 clear h hnv hv hbW x1 hz hlt hkl
 go_enter Tryz.func36, Tryz.ntmps36
 go_wp2_with fail
 refine HT.out.mono ?_
 rintro e w1 ⟨rfl, h1, h2⟩
 have HX := Lib.hid (And.intro h1 (grown_tr HG.out h2))
 clear h1 h2
 go_wp2_with fail
 go_ret
 exact ⟨rfl, HX.out.1, HX.out.2⟩
end Go.Proofs.YtdbgaccnejffpaaGreatDoor.Sat

namespace Go.Proofs.YtdbgaccnejffpaaGreatDoor.Sat
open Go.RowKit Go.Proofs.YtdbgaccnejffpaaGreatDoor.Ints Go.Proofs.YtdbgaccnejffpaaGreatDoor.Mem Go.Proofs.YtdbgaccnejffpaaGreatDoor.Src Go.Proofs.YtdbgaccnejffpaaGreatDoor.Paths Go.Proofs.YtdbgaccnejffpaaGreatDoor.Late Go.Proofs.YtdbgaccnejffpaaGreatDoor.Trace
section
variable {J : Jd} {k i j p : Nat} {lo hi : Int} {s t : Nat → Nat} {x : List UInt8} (hn : (tmOf J.t).n = J.n) (hp : p < J.n)
include hn hp
theorem tv_true (e : foI J.l k = .z 1 x) : tvB J k p = true := tv_eq (by rw [e]; exact ⟨fun _ => rfl, fun _ => sem_true (by omega) x⟩)
omit hn hp in
theorem tv_false (e : foI J.l k = .z 2 x) : tvB J k p = false := tv_eq (by rw [e]; exact ⟨fun h => absurd h (sem_false x), fun h => by cases h⟩)
theorem tv_prop (e : foI J.l k = .z 3 x) : tvB J k p = holdsT J.t ((p : Nat) : Int) x := tv_eq (by
 rw [e]
 constructor
 ·rintro h
  rcases (show p = p ∧ p < (tmOf J.t).n ∧ leafP (tmOf J.t) 3 x p from h).2.2 with e | e
  ·exact absurd e (by decide)
  ·exact e.2
 ·intro h
  exact ⟨rfl, by omega, .inr ⟨rfl, h⟩⟩)
theorem tv_not (e : foI J.l k = .o 4 lo hi (foI J.l i)) : tvB J k p = !(tvB J i p) := tv_eq (by
 rw [e, sem_not (by omega), ← tv_iff, Bool.not_eq_true', Bool.not_eq_true])
theorem tv_both {K : Int} (hK : K = 5 ∨ K = 6 ∨ K = 7) (e : foI J.l k = .t K lo hi (foI J.l i) (foI J.l j)) : tvB J k p = bothB K (tvB J i p) (tvB J j p) := tv_eq (by
 rw [e]
 rcases hK with rfl | rfl | rfl
 ·rw [sem_and (by omega), ← tv_iff, ← tv_iff]
  show _ ↔ (tvB J i p && tvB J j p) = true
  rw [Bool.and_eq_true]
 ·rw [sem_or (by omega), ← tv_iff, ← tv_iff]
  show _ ↔ (tvB J i p || tvB J j p) = true
  rw [Bool.or_eq_true]
 ·rw [sem_imp (by omega), ← tv_iff, ← tv_iff]
  show _ ↔ (!(tvB J i p) || tvB J j p) = true
  cases tvB J i p <;> simp)
theorem tv_prev (e : foI J.l k = .o 8 lo hi (foI J.l i)) : tvB J k p = prevB J lo hi (tvB J i) p := tv_eq (by
 rw [e, sem_prev (by omega), ← tv_iff]
 unfold prevB
 rw [Bool.and_eq_true, Bool.and_eq_true, decide_eq_true_eq]
 exact and_congr_right fun _ => ⟨fun h => ⟨h.2, h.1⟩, fun h => ⟨h.2, h.1⟩⟩)
theorem tv_next (e : foI J.l k = .o 9 lo hi (foI J.l i)) : tvB J k p = nextB J lo hi (tvB J i) p := tv_eq (by
 rw [e, sem_next (by omega), ← tv_iff, hn]
 unfold nextB
 rw [Bool.and_eq_true, Bool.and_eq_true, decide_eq_true_eq]
 exact and_congr_right fun _ => ⟨fun h => ⟨h.2, h.1⟩, fun h => ⟨h.2, h.1⟩⟩)
theorem tv_once (hP : PastS (tmOf J.t) lo hi p (s p) (t p)) (e : foI J.l k = .o 10 lo hi (foI J.l i)) : tvB J k p = someB (tvB J i) s t p := tv_eq (by
 rw [e, sem_once (by omega), someB_iff]
 obtain ⟨-, -, h3, -, h5⟩ := hP
 constructor
 ·rintro ⟨q, q1, q2, q3⟩
  obtain ⟨q4, q5⟩ := (h5 q q1).2 q2
  exact ⟨q, q4, q5, (tv_iff J i q).2 q3⟩
 ·rintro ⟨q, q1, q2, q3⟩
  exact ⟨q, by omega, (h5 q (by omega)).1 ⟨q1, q2⟩, (tv_iff J i q).1 q3⟩)
theorem tv_hist (hP : PastS (tmOf J.t) lo hi p (s p) (t p)) (e : foI J.l k = .o 11 lo hi (foI J.l i)) : tvB J k p = allB (tvB J i) s t p := tv_eq (by
 rw [e, sem_hist (by omega), allB_iff]
 obtain ⟨-, -, h3, -, h5⟩ := hP
 constructor
 ·intro h q q1 q2
  exact (tv_iff J i q).2 (h q (by omega) ((h5 q (by omega)).1 ⟨q1, q2⟩))
 ·intro h q q1 q2
  obtain ⟨q4, q5⟩ := (h5 q q1).2 q2
  exact (tv_iff J i q).1 (h q q4 q5))
theorem tv_some (hP : FutS (tmOf J.t) lo hi p (s p) (t p)) (e : foI J.l k = .o 12 lo hi (foI J.l i)) : tvB J k p = someB (tvB J i) s t p := tv_eq (by
 rw [e, sem_some (by omega), someB_iff]
 obtain ⟨h1, -, -, h3, -, h5⟩ := hP
 constructor
 ·rintro ⟨q, q1, q0, q2, q3⟩
  obtain ⟨q4, q5⟩ := (h5 q q1 q0).2 q2
  exact ⟨q, q4, q5, (tv_iff J i q).2 q3⟩
 ·rintro ⟨q, q1, q2, q3⟩
  exact ⟨q, by omega, by omega, (h5 q (by omega) (by omega)).1 ⟨q1, q2⟩, (tv_iff J i q).1 q3⟩)
theorem tv_all (hP : FutS (tmOf J.t) lo hi p (s p) (t p)) (e : foI J.l k = .o 13 lo hi (foI J.l i)) : tvB J k p = allB (tvB J i) s t p := tv_eq (by
 rw [e, sem_all (by omega), allB_iff]
 obtain ⟨h1, -, -, h3, -, h5⟩ := hP
 constructor
 ·intro h q q1 q2
  exact (tv_iff J i q).2 (h q (by omega) (by omega) ((h5 q (by omega) (by omega)).1 ⟨q1, q2⟩))
 ·intro h q q1 q0 q2
  obtain ⟨q4, q5⟩ := (h5 q q1 q0).2 q2
  exact (tv_iff J i q).1 (h q q4 q5))
theorem tv_since (hP : PastS (tmOf J.t) lo hi p (s p) (t p)) (e : foI J.l k = .t 14 lo hi (foI J.l i) (foI J.l j)) : tvB J k p = someB (tvB J j) (fun q => max (s q) (lastN (tvB J i) q)) t p := tv_eq (by
 rw [e, sem_since (by omega), someB_iff]
 obtain ⟨-, -, h3, -, h5⟩ := hP
 constructor
 ·rintro ⟨q, q1, q2, q3, q6⟩
  obtain ⟨q4, q5⟩ := (h5 q q1).2 q2
  have := (lastN_iff (tvB J i) p q q1).2 (fun x x1 x2 => (tv_iff J i x).2 (q6 x x1 x2))
  exact ⟨q, by show max (s p) (lastN (tvB J i) p) ≤ q; omega, q5, (tv_iff J j q).2 q3⟩
 ·rintro ⟨q, q1, q2, q3⟩
  have q1 : max (s p) (lastN (tvB J i) p) ≤ q := q1
  have hl := (lastN_iff (tvB J i) p q (by omega)).1 (by omega)
  exact ⟨q, by omega, (h5 q (by omega)).1 ⟨by omega, q2⟩, (tv_iff J j q).1 q3, fun x x1 x2 => (tv_iff J i x).1 (hl x x1 x2)⟩)
theorem tv_until (hP : FutS (tmOf J.t) lo hi p (s p) (t p)) (e : foI J.l k = .t 15 lo hi (foI J.l i) (foI J.l j)) : tvB J k p = someB (tvB J j) s (fun q => min (t q) (nextU (tvB J i) J.n (J.n - q))) p := tv_eq (by
 rw [e, sem_until (by omega), someB_iff]
 obtain ⟨h1, -, -, h3, -, h5⟩ := hP
 constructor
 ·rintro ⟨q, q1, q0, q2, q3, q6⟩
  obtain ⟨q4, q5⟩ := (h5 q q1 q0).2 q2
  have := (nextU_iff (tvB J i) J.n (J.n - p) (by omega) q (by omega) (by omega)).2 (fun x x1 x2 => (tv_iff J i x).2 (q6 x (by omega) x2))
  exact ⟨q, q4, by show q < min (t p) (nextU (tvB J i) J.n (J.n - p)); omega, (tv_iff J j q).2 q3⟩
 ·rintro ⟨q, q1, q2, q3⟩
  have q2 : q < min (t p) (nextU (tvB J i) J.n (J.n - p)) := q2
  have hl := (nextU_iff (tvB J i) J.n (J.n - p) (by omega) q (by omega) (by omega)).1 (by omega)
  exact ⟨q, by omega, by omega, (h5 q (by omega) (by omega)).1 ⟨q1, by omega⟩, (tv_iff J j q).1 q3, fun x x1 x2 => (tv_iff J i x).1 (hl x (by omega) x2)⟩)
omit hp in
theorem tv_back (hp : p < J.n) (hP : PastS (tmOf J.t) lo hi p (s p) (t p)) (e : foI J.l k = .o 16 lo hi (foI J.l i)) : tvB J k p = true ↔ ∃ q, s p ≤ q ∧ q < t p ∧ sem (tmOf J.t) (foI J.l i) q p := by
 rw [tv_iff, e, sem_back (by omega)]
 obtain ⟨-, -, h3, -, h5⟩ := hP
 constructor
 ·rintro ⟨q, q1, q2, q3⟩
  obtain ⟨q4, q5⟩ := (h5 q q1).2 q2
  exact ⟨q, q4, q5, q3⟩
 ·rintro ⟨q, q1, q2, q3⟩
  exact ⟨q, by omega, (h5 q (by omega)).1 ⟨q1, q2⟩, q3⟩
omit hp in
theorem tv_fore (hp : p < J.n) (hP : FutS (tmOf J.t) lo hi p (s p) (t p)) (e : foI J.l k = .o 17 lo hi (foI J.l i)) : tvB J k p = true ↔ ∃ q, s p ≤ q ∧ q < t p ∧ sem (tmOf J.t) (foI J.l i) p q := by
 rw [tv_iff, e, sem_fore (by omega)]
 obtain ⟨h1, -, -, h3, -, h5⟩ := hP
 constructor
 ·rintro ⟨q, q1, q0, q2, q3⟩
  obtain ⟨q4, q5⟩ := (h5 q q1 q0).2 q2
  exact ⟨q, q4, q5, q3⟩
 ·rintro ⟨q, q1, q2, q3⟩
  exact ⟨q, by omega, by omega, (h5 q (by omega) (by omega)).1 ⟨q1, q2⟩, q3⟩
theorem tv_test (e : foI J.l k = .o 19 lo hi (foI J.l i)) : tvB J k p = tvB J i p := tv_eq (by
 rw [e, sem_test, tv_iff]
 exact ⟨fun h => h.2.2, fun h => ⟨rfl, by omega, h⟩⟩)
end
end Go.Proofs.YtdbgaccnejffpaaGreatDoor.Sat

namespace Go.Proofs.YtdbgaccnejffpaaGreatDoor.Sat
open Go.Proofs.YtdbgaccnejffpaaGreatDoor.Paths
end Go.Proofs.YtdbgaccnejffpaaGreatDoor.Sat
