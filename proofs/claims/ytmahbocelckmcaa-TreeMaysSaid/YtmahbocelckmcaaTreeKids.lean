/-
  The walk of the landed tree's rightKids. By an AI agent.
-/
import Derived.Test.YtmahbocelckmcaaTreeFields
namespace Go.Proofs.Ytmahbocelckmcaa.Tree
open Go.RowKit Go.Proofs.Ytmahbocelckmcaa.Ints

theorem kids_stop {l : List Nd} {n : Nd} {j : Nat} {k : Int} (h : n.kids[j]? = some k) (hb : (regKind (kindAt l k) == takesReg n.kind) = false) : kidsB l n = false := by
  unfold kidsB
  rw [List.all_eq_false]
  exact ⟨k, List.mem_of_getElem? h, by rw [hb]; decide⟩
theorem kids_all {l : List Nd} {n : Nd} (h : ∀ (j : Nat) (k : Int), n.kids[j]? = some k → (regKind (kindAt l k) == takesReg n.kind) = true) : kidsB l n = true := by
  unfold kidsB
  rw [List.all_eq_true]
  intro k hk
  obtain ⟨j, hj, rfl⟩ := List.getElem_of_mem hk
  exact h j _ (List.getElem?_eq_getElem hj)

set_option maxHeartbeats 4000000 in
set_option maxRecDepth 100000 in
theorem landRightKids (A : Option Addr) (n c : Nat) (l : List Nd) (nd : Nd) (K : Option Addr) (m ck : Nat) (w : World) (hl : l.length = n) (hn : n ≤ 1048576) (h : Nodes Any w A l) (hm : nd.kids.length = m)
    (hK : Rd .i64 w K m nd.kids) (hm2 : m ≤ 1048576) (hk : ∀ k ∈ nd.kids, 0 ≤ k ∧ k < (n : Int)) :
    Calls Try.prog 55 #[.slice A n c, ndV nd K m ck] w fun e w' => e = .returned (.bool (kidsB l nd)) ∧ Below w.heap.size w w' := by
  have hni : (n : Int) ≤ 1048576 := by omega
  have hmi : (m : Int) ≤ 1048576 := by omega
  have HTR := Lib.hid (fun W => landTakesReg nd.kind W)
  have HL := Lib.hid hl
  have HD := Lib.hid h
  have HM := Lib.hid hm
  have HK := Lib.hid hK
  have HKB := Lib.hid hk
  obtain ⟨T, hT⟩ : ∃ t, takesReg nd.kind = t := ⟨_, rfl⟩
  rw [hT] at HTR
  have HT := Lib.hid hT
  clear hl h hm hK hk hT hn
  go_enter Try.func55, Try.ntmps55
  go_wp2
  go_loopw [10] (fun i wx => ∃ j : Nat, j ≤ m ∧ i = .int .i64 j ∧ Below w.heap.size w wx ∧ wx.cell? ⟨w.heap.size, 0, none⟩ = some (.int .i64 nd.kind) ∧ Hid (∀ (i : Nat) (k : Int), i < j → nd.kids[i]? = some k → (regKind (kindAt l k) == T) = true)) (fun i _ => m - (intOf i).toNat)
  case atStart => exact ⟨0, Nat.zero_le _, rfl, (Below.refl _ _).alloc (Nat.le_refl _) _, box_cell 0 _ rfl, fun i k hi => absurd hi (by omega)⟩
  case round =>
    obtain ⟨j, hj, rfl, hBx, hx0, HJ⟩ := hrel
    have HBX := Lib.hid hBx
    by_cases hjm : j < m
    · have hjm' : (j : Int) < (m : Int) := by omega
      have hj0 : (0 : Int) ≤ (j : Int) := by omega
      obtain ⟨kj, hkj⟩ : ∃ kj, nd.kids[j]? = some kj := ⟨_, List.getElem?_eq_getElem (by have := HM.out; omega)⟩
      obtain ⟨t0, t1⟩ := HKB.out kj (List.mem_of_getElem? hkj)
      obtain ⟨t, rfl⟩ := Int.eq_ofNat_of_zero_le t0
      obtain ⟨x, hx⟩ : ∃ x, l[t]? = some x := ⟨_, List.getElem?_eq_getElem (by have := HL.out; omega)⟩
      obtain ⟨bk, ok, eK, hkc⟩ := (HK.out.below hBx).cell (by omega)
      have ck1 := hkc j hjm
      rw [hkj, Option.getD_some] at ck1
      obtain ⟨b, off, eA, hnodes⟩ := (HD.out.below hBx) (by have := HL.out; omega)
      have cn := (hnodes t x hx).1
      rw [Nat.mul_comm] at cn
      have hka : kindAt l (t : Int) = x.kind := by unfold kindAt; rw [Int.toNat_natCast, hx]; rfl
      have HKA := Lib.hid hka
      have HKJ := Lib.hid hkj
      have HIR := Lib.hid (fun W => landIsReg x.kind W)
      subst eK
      subst eA
      obtain ⟨R, hR⟩ : ∃ r, regKind x.kind = r := ⟨_, rfl⟩
      rw [hR] at HIR
      have HR := Lib.hid hR
      clear hkc hnodes hkj hx hka hR hBx
      by_cases hRT : R = T
      · have HJ2 := Lib.hid (show ∀ (i : Nat) (k : Int), i < j + 1 → nd.kids[i]? = some k → (regKind (kindAt l k) == T) = true from fun i k hi h1 => by
          by_cases hij : i = j
          · subst hij
            have e1 := HKJ.out.symm.trans h1
            injection e1 with e1
            subst e1
            rw [HKA.out, HR.out, hRT]; simp
          · exact HJ.out i k (by omega) h1)
        subst hRT
        clear HR
        cases R
        all_goals
          go_wp2
          go_quiet ((first | (go_at_call 36; refine (HIR.out _).mono ?_; rintro e w' ⟨rfl, rfl⟩; exact ⟨rfl, _, rfl⟩) | (go_at_call 70; refine (HTR.out _).mono ?_; rintro e w' ⟨rfl, rfl⟩; exact ⟨rfl, _, rfl⟩)))
          go_wp2
          go_roundw
          case rel => exact ⟨j + 1, by omega, by go_num, below_drewN HBX.out _, hx0, HJ2⟩
          case measure => simp [intOf]; omega
      · have HF := Lib.hid (show kidsB l nd = false from kids_stop HKJ.out (by rw [HKA.out, HR.out, HT.out]; exact beq_eq_false_iff_ne.2 hRT))
        have hcase : (R = true ∧ T = false) ∨ (R = false ∧ T = true) := by cases R <;> cases T <;> simp at hRT ⊢
        clear HR HT hRT HJ
        rcases hcase with ⟨rfl, rfl⟩ | ⟨rfl, rfl⟩
        all_goals
          go_wp2
          go_quiet ((first | (go_at_call 36; refine (HIR.out _).mono ?_; rintro e w' ⟨rfl, rfl⟩; exact ⟨rfl, _, rfl⟩) | (go_at_call 70; refine (HTR.out _).mono ?_; rintro e w' ⟨rfl, rfl⟩; exact ⟨rfl, _, rfl⟩)))
          go_wp2
          go_ret
          exact ⟨by rw [HF.out]; rfl, below_drewN HBX.out _⟩
    · have hge : decide ((j : Int) < (m : Int)) = false := by simp; omega
      have HF := Lib.hid (show kidsB l nd = true from kids_all fun i k h1 => by rw [HT.out]; exact HJ.out i k (by have := (List.getElem?_eq_some_iff.1 h1).1; have := HM.out; omega) h1)
      clear hBx
      go_wp2
      go_ret
      exact ⟨by rw [HF.out]; rfl, HBX.out⟩
end Go.Proofs.Ytmahbocelckmcaa.Tree
