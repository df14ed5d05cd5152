/-
  The walks of the reference's Form, Reg, Plain and SameNodes. By an AI agent.
  The walks of the reference's Start and Part. The walk of the reference's Part.
    Made of several texts by wip/tools/mergetpl.py. By an AI agent.
  The walks of the reference's inside, places, Tests and Steps (stage 14). By an AI agent.
-/
import Derived.Test.YtdbgaccnejffpaaGreatGSatTells7
import Derived.Test.YtdbgaccnejffpaaGreatGSatTells9
import Derived.Test.YtdbgaccnejffpaaGreatGSatTells8
import Derived.Deep.RegionHeld
import Derived.Test.YtdbgaccnejffpaaGreatGSatTells5
namespace Go.Proofs.YtdbgaccnejffpaaGreat.Tree
open Go.RowKit Go.Proofs.YtdbgaccnejffpaaGreat.Ints
theorem last_at {l : List Nd} {n : Nat} (hl : l.length = n) (h0 : 0 < n) : ∃ x, l[n - 1]? = some x ∧ lastKind l = x.kind := by
 have h1 : n - 1 < l.length := by omega
 refine ⟨l[n - 1], List.getElem?_eq_getElem h1, ?_⟩
 unfold lastKind
 rw [List.getLast?_eq_getElem?, hl, List.getElem?_eq_getElem h1]
 rfl
theorem last_cell {l : List Nd} {n : Nat} {w : World} {A : Option Addr} (hl : l.length = n) (h0 : 0 < n) (h : Nodes Any w A l) : ∃ b off, A = some ⟨b, off, none⟩ ∧ w.cell? ⟨b, off + (n - 1) * 5, none⟩ = some (.int .i64 (lastKind l)) := by
 obtain ⟨b, off, e, hn⟩ := h (by omega)
 obtain ⟨x, hx, hk⟩ := last_at hl h0
 refine ⟨b, off, e, ?_⟩
 have := (hn _ _ hx).1
 rw [Nat.mul_comm] at this
 rw [hk]; exact this
set_option maxHeartbeats 2000000 in
theorem refForm (A : Option Addr) (n c : Nat) (l : List Nd) (w : World) (hl : l.length = n) (hn : n ≤ 1048576) (h : Nodes Any w A l) :
  Calls Tryz.prog 17 #[.slice A n c] w fun e w' => e = .returned (.bool (formL l)) ∧ Below w.heap.size w w' := by
 have hni : (n : Int) ≤ 1048576 := by omega
 have hM := fun W (hb : Below w.heap.size w W) => refMay A n c l W hl hn (h.below hb)
 have HL := Lib.hid hl
 have HD := Lib.hid h
 clear hl hn h
 rcases hm : mayL l
 ·have HR := Lib.hid (show formL l = false by unfold formL; rw [hm]; rfl)
  rw [hm] at hM
  have HM := Lib.hid hM
  clear hM hm
  go_enter Tryz.func17, Tryz.ntmps17
  go_wp2_with (go_at_call 28; refine (HM.out _ (Below.refl _ _)).mono ?_; rintro e w1 ⟨rfl, hb1⟩)
  go_ret
  exact ⟨by rw [HR.out]; rfl, hb1⟩
 ·have h0 := may_ne hm
  have HR := Lib.hid (show formL l = formKind (lastKind l) by unfold formL; rw [hm]; rfl)
  rw [hm] at hM
  have HM := Lib.hid hM
  have hn0 : 0 < n := by rw [← HL.out]; exact h0
  obtain ⟨b, off, e, hc⟩ := last_cell HL.out hn0 HD.out
  have HF := Lib.hid (fun W => refFormKind (lastKind l) W)
  have hn1 : (0 : Int) ≤ (n : Int) - 1 := by omega
  have hn2 : (1 : Int) ≤ (n : Int) := by omega
  have HC := Lib.hid hc
  subst e
  clear hM hm h0 hc
  go_enter Tryz.func17, Tryz.ntmps17
  go_wp2_with (first
   | (go_at_call 28; refine (HM.out _ (Below.refl _ _)).mono ?_; rintro e w1 ⟨rfl, hb1⟩; have hc1 := below_cell hb1 HC.out)
   | (go_at_call 29; refine (HF.out _).mono ?_; rintro e w' ⟨rfl, rfl⟩))
  go_ret
  exact ⟨by rw [HR.out]; rfl, hb1⟩
set_option maxHeartbeats 2000000 in
theorem refReg (A : Option Addr) (n c : Nat) (l : List Nd) (w : World) (hl : l.length = n) (hn : n ≤ 1048576) (h : Nodes Any w A l) :
  Calls Tryz.prog 102 #[.slice A n c] w fun e w' => e = .returned (.bool (regL l)) ∧ Below w.heap.size w w' := by
 have hni : (n : Int) ≤ 1048576 := by omega
 have hM := fun W (hb : Below w.heap.size w W) => refMay A n c l W hl hn (h.below hb)
 have HL := Lib.hid hl
 have HD := Lib.hid h
 clear hl hn h
 rcases hm : mayL l
 ·have HR := Lib.hid (show regL l = false by unfold regL; rw [hm]; rfl)
  rw [hm] at hM
  have HM := Lib.hid hM
  clear hM hm
  go_enter Tryz.func102, Tryz.ntmps102
  go_wp2_with (go_at_call 28; refine (HM.out _ (Below.refl _ _)).mono ?_; rintro e w1 ⟨rfl, hb1⟩)
  go_ret
  exact ⟨by rw [HR.out]; rfl, hb1⟩
 ·have h0 := may_ne hm
  have HR := Lib.hid (show regL l = !formKind (lastKind l) by unfold regL; rw [hm]; rfl)
  rw [hm] at hM
  have HM := Lib.hid hM
  have hn0 : 0 < n := by rw [← HL.out]; exact h0
  obtain ⟨b, off, e, hc⟩ := last_cell HL.out hn0 HD.out
  have HF := Lib.hid (fun W => refFormKind (lastKind l) W)
  have hn1 : (0 : Int) ≤ (n : Int) - 1 := by omega
  have hn2 : (1 : Int) ≤ (n : Int) := by omega
  have HC := Lib.hid hc
  subst e
  clear hM hm h0 hc
  go_enter Tryz.func102, Tryz.ntmps102
  go_wp2_with (first
   | (go_at_call 28; refine (HM.out _ (Below.refl _ _)).mono ?_; rintro e w1 ⟨rfl, hb1⟩; have hc1 := below_cell hb1 HC.out)
   | (go_at_call 29; refine (HF.out _).mono ?_; rintro e w' ⟨rfl, rfl⟩))
  go_ret
  exact ⟨by rw [HR.out]; rfl, hb1⟩
end Go.Proofs.YtdbgaccnejffpaaGreat.Tree

/- The walks of the reference's Start and Part. By an AI agent. -/
namespace Go.Proofs.YtdbgaccnejffpaaGreat.Tree
open Go.RowKit Go.Proofs.YtdbgaccnejffpaaGreat.Ints
theorem start_stop {l : List Nd} {i f : Nat} {n : Nd} (h : l[i]? = some n) (hk : n.kids = []) : startF l f i = i := by
 cases f with
 | zero => rfl
 | succ f => rw [startF, h]; simp only [hk]
theorem start_go {l : List Nd} {i f t : Nat} {n : Nd} {r : List Int} (h : l[i]? = some n) (hk : n.kids = (t : Int) :: r) : startF l (f + 1) i = startF l f t := by
 rw [startF, h]; simp only [hk, Int.toNat_natCast]
theorem startF_fuel {l : List Nd} (hm : mayL l = true) : ∀ (i : Nat), i < l.length → ∀ f, i < f → startF l f i = startL l i := by
 intro i
 induction i using Nat.strongRecOn with
 | ind i ih =>
  intro hi f hf
  obtain ⟨f, rfl⟩ : ∃ g, f = g + 1 := ⟨f - 1, by omega⟩
  have hn := List.getElem?_eq_getElem hi
  cases hk : l[i].kids with
  | nil => unfold startL; rw [start_stop hn hk, start_stop hn hk]
  | cons k r =>
   have hb := may_kids hm hn k (by rw [hk]; exact List.mem_cons_self ..)
   obtain ⟨t, rfl⟩ := Int.eq_ofNat_of_zero_le hb.1
   unfold startL
   rw [start_go hn hk, start_go hn hk, ih t (by omega) (by omega) f (by omega), ih t (by omega) (by omega) i (by omega)]
theorem startL_stop {l : List Nd} {i : Nat} {n : Nd} (h : l[i]? = some n) (hk : n.kids = []) : startL l i = i := start_stop h hk
theorem startL_go {l : List Nd} (hm : mayL l = true) {i t : Nat} {n : Nd} {r : List Int} (h : l[i]? = some n) (hk : n.kids = (t : Int) :: r) : startL l i = startL l t := by
 have hb := may_kids hm h t (by rw [hk]; exact List.mem_cons_self ..)
 have hi := (List.getElem?_eq_some_iff.1 h).1
 unfold startL
 rw [start_go h hk]
 exact startF_fuel hm t (by omega) i (by omega)
theorem startL_le {l : List Nd} (hm : mayL l = true) : ∀ (i : Nat), i < l.length → startL l i ≤ i := by
 intro i
 induction i using Nat.strongRecOn with
 | ind i ih =>
  intro hi
  have hn := List.getElem?_eq_getElem hi
  cases hk : l[i].kids with
  | nil => rw [startL_stop hn hk]; exact Nat.le_refl _
  | cons k r =>
   have hb := may_kids hm hn k (by rw [hk]; exact List.mem_cons_self ..)
   obtain ⟨t, rfl⟩ := Int.eq_ofNat_of_zero_le hb.1
   rw [startL_go hm hn hk]
   have := ih t (by omega) (by omega)
   omega
set_option maxHeartbeats 4000000 in
theorem refStart (A : Option Addr) (n c i : Nat) (l : List Nd) (w : World) (hl : l.length = n) (hn : n ≤ 1048576) (hi : i < n) (hm : mayL l = true) (h : Nodes Any w A l) :
  Calls Tryz.prog 99 #[.slice A n c, .int .i64 (i : Int)] w fun e w' => e = .returned (.int .i64 (startL l i : Int)) ∧ w' = w := by
 have hni : (n : Int) ≤ 1048576 := by omega
 have HL := Lib.hid hl
 have HM := Lib.hid hm
 have HI := Lib.hid hi
 obtain ⟨b, off, e, hnodes⟩ := h (by omega)
 have HNS := Lib.hid hnodes
 subst e
 clear hl hn hm h hnodes hi
 go_enter Tryz.func99, Tryz.ntmps99
 go_wp2
 go_loop [1] (fun v => ∃ k : Nat, k < n ∧ v = .int .i64 k ∧ Hid (startL l i = startL l k)) (fun v => (intOf v).toNat)
 case atStart => exact ⟨i, HI.out, rfl, rfl⟩
 case round =>
  obtain ⟨k, hk, rfl, HS⟩ := hrel
  have hk' : (k : Int) < (n : Int) := by omega
  have hk0 : (0 : Int) ≤ (k : Int) := by omega
  obtain ⟨nd, hnd⟩ : ∃ nd, l[k]? = some nd := ⟨_, List.getElem?_eq_getElem (by have := HL.out; omega)⟩
  obtain ⟨x0, x1, x2, x3, s0, s2, s3, s1, K, cK, x4, hK, hKc, hcK, -, -⟩ := HNS.out k nd hnd
  rw [Nat.mul_comm 5 k] at x0 x1 x2 x3 x4
  have HND := Lib.hid hnd
  cases hkids : nd.kids with
  | nil =>
   rw [hkids] at x4
   simp only [List.length_nil] at x4
   have HR := Lib.hid (HS.out.trans (startL_stop HND.out hkids))
   clear hnd hK hKc hkids HS
   go_wp2
   go_ret
   exact ⟨by rw [HR.out]; rfl, rfl⟩
  | cons kk r =>
   have hb := may_kids HM.out HND.out kk (by rw [hkids]; exact List.mem_cons_self ..)
   obtain ⟨t, rfl⟩ := Int.eq_ofNat_of_zero_le hb.1
   have htk : t < k := by omega
   have HR := Lib.hid (HS.out.trans (startL_go HM.out HND.out hkids))
   obtain ⟨bk, ok, eK, hkc⟩ := hK.cell (by rw [hkids]; simp)
   have ck := hkc 0 (by rw [hkids]; simp)
   rw [hkids] at ck x4
   simp only [List.getElem?_cons_zero, Option.getD_some, Nat.add_zero, List.length_cons] at ck x4
   have hr0 : (0 : Int) < (r.length : Int) + 1 := by omega
   have hr1 : 0 < r.length + 1 := by omega
   subst eK
   clear hnd hK hKc hkids HS hkc hb
   go_wp2
   go_round
   case rel => exact ⟨t, by omega, rfl, HR⟩
   case measure => simp [intOf]; omega
end Go.Proofs.YtdbgaccnejffpaaGreat.Tree
/- The walk of the reference's Part. By an AI agent. -/
namespace Go.Proofs.YtdbgaccnejffpaaGreat.Tree
open Go.RowKit Go.Proofs.YtdbgaccnejffpaaGreat.Ints
set_option maxHeartbeats 8000000 in
set_option maxRecDepth 100000 in
theorem refPart (A : Option Addr) (n c : Nat) (i : Int) (l : List Nd) (w : World) (hl : l.length = n) (hn : n ≤ 1048576) (hnc : n ≤ c) (h : Nodes Any w A l) (hi : small64 i) :
  Calls Tryz.prog 98 #[.slice A n c, .int .i64 i] w (GotNodes (fun b => w.heap.size ≤ b) w (partL l i)) := by
 obtain ⟨i0, hi0, hz0, hz1, hz2⟩ := info_parts infoInt
 obtain ⟨j0, hj0, hy0, hy1, hy2⟩ := info_parts infoNode
 have hni : (n : Int) ≤ 1048576 := by omega
 obtain ⟨hi1, hi2⟩ := hi
 have hM := fun W (hb : Below w.heap.size w W) => refMay A n c l W hl hn (h.below hb)
 have HL := Lib.hid hl
 have HD := Lib.hid h
 have HN := Lib.hid hn
 clear hl hn h
 rcases hm : mayL l
 ·have HR := Lib.hid (show partL l i = [] by unfold partL; rw [if_neg (by rw [hm]; simp)])
  rw [hm] at hM
  have HM := Lib.hid hM
  clear hM hm
  go_enter Tryz.func98, Tryz.ntmps98
  go_wp2_with (go_at_call 28; refine (HM.out _ (Below.refl _ _)).mono ?_; rintro e w1 ⟨rfl, hb1⟩)
  go_ret
  rw [HR.out]
  exact GotNodes.none0 hb1
 ·have HMY := Lib.hid hm
  rw [hm] at hM
  have HM := Lib.hid hM
  by_cases hlo : i < 0
  ·have HR := Lib.hid (show partL l i = [] by unfold partL; rw [if_neg (by omega)])
   clear hM hm
   go_enter Tryz.func98, Tryz.ntmps98
   go_wp2_with (go_at_call 28; refine (HM.out _ (Below.refl _ _)).mono ?_; rintro e w1 ⟨rfl, hb1⟩)
   go_ret
   rw [HR.out]
   exact GotNodes.none0 hb1
  ·have hlo' : decide (i < 0) = false := decide_eq_false hlo
   by_cases hhi : (n : Int) ≤ i
   ·have HR := Lib.hid (show partL l i = [] by unfold partL; rw [if_neg (by have := HL.out; omega)])
    clear hM hm
    go_enter Tryz.func98, Tryz.ntmps98
    go_wp2_with (go_at_call 28; refine (HM.out _ (Below.refl _ _)).mono ?_; rintro e w1 ⟨rfl, hb1⟩)
    go_ret
    rw [HR.out]
    exact GotNodes.none0 hb1
   ·have hhi' : decide ((n : Int) ≤ i) = false := decide_eq_false hhi
    obtain ⟨q, rfl⟩ := Int.eq_ofNat_of_zero_le (show 0 ≤ i by omega)
    have hqn : q < n := by omega
    have HR := Lib.hid (show partL l (q : Int) = cutL l (startL l q) q by unfold partL cutL; rw [if_pos ⟨hm, by have := HL.out; omega⟩, Int.toNat_natCast])
    have hfq := startL_le hm q (by have := HL.out; omega)
    have hS := fun W (hb : Below w.heap.size w W) => refStart A n c q l W HL.out HN.out hqn hm (HD.out.below hb)
    obtain ⟨f, hf⟩ : ∃ f, startL l q = f := ⟨_, rfl⟩
    rw [hf] at hS hfq HR
    have HST := Lib.hid hS
    obtain ⟨t, ht⟩ : ∃ t, q + 1 - f = t := ⟨_, rfl⟩
    have hsl := slice_part (P := Tryz.prog) 26 typeNodes 5 sizeElemNodes A n c f (q + 1) (by omega) (by omega)
    rw [ht, Int.natCast_add, Int.natCast_one] at hsl
    obtain ⟨T, hT⟩ : ∃ T, fromAddr A c f 5 = T := ⟨_, rfl⟩
    obtain ⟨cT, hcT⟩ : ∃ cT, c - f = cT := ⟨_, rfl⟩
    rw [hT, hcT] at hsl
    obtain ⟨b, off, eA, hnodes⟩ := HD.out (by have := HL.out; omega)
    have hTe : T = some ⟨b, off + f * 5, none⟩ := by
     rw [← hT, eA]
     unfold fromAddr
     rw [if_neg (by omega)]
     unfold Addr.add
     simp
    subst hTe
    have HNS := Lib.hid hnodes
    have HT := Lib.hid ht
    have hti : (t : Int) ≤ 1048576 := by omega
    have hfi : (f : Int) ≤ 1048576 := by omega
    subst eA
    clear hM hm hS hf hT hcT hnodes ht hnc
    go_enter Tryz.func98, Tryz.ntmps98
    go_wp2_with (first
     | (go_at_call 28; refine (HM.out _ (Below.refl _ _)).mono ?_; rintro e w1 ⟨rfl, hb1⟩)
     | (go_at_call 99; refine (HST.out _ hb1).mono ?_; rintro e w2 ⟨rfl, rfl⟩))
    have HB1 := Lib.hid hb1
    clear hb1
    go_loopw [6, 34] (fun v i wr => ∃ (j : Nat) (σ : List SNd), j ≤ t ∧ i = .int .i64 j ∧ OwnNodes (fun b => w.heap.size ≤ b) wr w.heap.size v σ ∧ σ.length = j ∧ Hid (σ.map (·.1) = (cutL l f q).take j) ∧ Below w.heap.size w wr) (fun _ i _ => t - (intOf i).toNat)
    case atStart => exact ⟨0, [], Nat.zero_le _, rfl, OwnNodes.nil _ _ _, rfl, rfl, HB1.out⟩
    case round =>
     obtain ⟨j, σ, hj, rfl, hown, hσ, HC, hB⟩ := hrel
     have HO := Lib.hid hown
     have HB := Lib.hid hB
     have HSG := Lib.hid hσ
     clear hown hB hσ
     by_cases hjt : j < t
     ·have hjt' : (j : Int) < (t : Int) := by omega
      obtain ⟨nd, hnd⟩ : ∃ nd, l[f + j]? = some nd := ⟨_, List.getElem?_eq_getElem (by have := HL.out; have := HT.out; omega)⟩
      obtain ⟨x0, x1, x2, x3, s0, s2, s3, s1, K, cK, x4, hK, hKc, hcK, -, -⟩ := HNS.out (f + j) nd hnd
      rw [show off + 5 * (f + j) = off + f * 5 + j * 5 by omega] at x0 x1 x2 x3 x4
      replace x0 := below_cell HB.out x0
      replace x1 := below_cell HB.out x1
      replace x2 := below_cell HB.out x2
      replace x3 := below_cell HB.out x3
      replace x4 := below_cell HB.out x4
      have HND := Lib.hid hnd
      obtain ⟨m, hm⟩ : ∃ m, nd.kids.length = m := ⟨_, rfl⟩
      rw [hm] at x4 hK hKc
      have HMK := Lib.hid hm
      have HRK := Lib.hid hK
      have hm64 : (m : Int) ≤ 9223372036854775807 := by have : maxLen = 9223372036854775807 := rfl; omega
      have hm2 : m ≤ 2 := by rw [← hm]; exact may_arity HMY.out hnd
      obtain ⟨wo, hwo⟩ : ∃ wo : World, wo = wr := ⟨_, rfl⟩
      rw [← hwo] at HO HB
      have HSM := Lib.hid (⟨s0, s2, s3, s1⟩ : small64 nd.kind ∧ small64 nd.lo ∧ small64 nd.hi ∧ nd.name.size ≤ maxLen)
      clear hnd hK hm s0 s2 s3 s1
      go_wp2
      go_loopw [9, 41] (fun kv i wx => ∃ k : Nat, k ≤ m ∧ i = .int .i64 k ∧ wx.ownsRow (wo.heap.size + 1) 3 1 kv k (((nd.kids.take k).map (· + -(f : Int))).map (Value.int .i64)) ∧ Below (wo.heap.size + 1) (wo.alloc (.cells #[.int .i64 nd.kind, .string nd.name, .int .i64 nd.lo, .int .i64 nd.hi, .slice K m cK] 47)) wx) (fun _ i _ => m - (intOf i).toNat)
      case atStart => exact ⟨0, Nat.zero_le _, rfl, World.ownsRow_nil _ _ _ _, by rw [hwo]; exact Below.refl _ _⟩
      case round =>
       obtain ⟨k, hk, rfl, hrow, hBx⟩ := hrel
       have hszx : wo.heap.size + 1 ≤ wr.heap.size := by have := hBx.size; simp at this; omega
       have hBo : Below wo.heap.size wo wr := ((Below.refl _ _).alloc (Nat.le_refl _) _).trans (hBx.mono (Nat.le_succ _))
       have HRX := Lib.hid hrow
       have HBX := Lib.hid hBx
       have HBO := Lib.hid hBo
       have HWO := Lib.hid hwo
       clear hrow hBx hBo hwo
       by_cases hkm : k < m
       ·have hkm' : (k : Int) < (m : Int) := by omega
        obtain ⟨t', ht', htk, htake⟩ := kid_nat HMY.out HND.out (j := k) (by rw [HMK.out]; exact hkm)
        obtain ⟨bk, ok, eK, hkc⟩ := (HRK.out.below (HB.out.trans (HBO.out.mono HB.out.size))).cell (by omega)
        have ck := hkc k hkm
        rw [ht'] at ck
        have HTK := Lib.hid htake
        have htb : (t' : Int) ≤ 1048576 := by have := HL.out; have := HT.out; omega
        subst eK
        clear ht' htake hkc
        go_wp2_with (at_builtin; refine wpList_append_ints rfl (.tmp 45) (.tmp 49) 29 rfl .i64 (wo.heap.size + 1) 3 i0 8 Tryz.underlying29 hi0 hz0 hz1 hz2 _ k _ rfl (HRX.out.alloc _) _ 1 1 [(t' : Int) - (f : Int)] rfl (Rd.lit wr 3 (0, 0) [(t' : Int) - (f : Int)] (fun z hz => by rw [List.mem_singleton.1 hz]; exact WalkArith.wf_i64 (by omega))) (by have : maxLen = 9223372036854775807 := rfl; omega) (by omega) (le_alloc hszx) ?_; intro v1 w3 hown1 hgr1)
        go_roundw
        case rel =>
         refine ⟨k + 1, by omega, by go_num, ?_, (HBX.out.alloc hszx _).grown hgr1 (le_alloc hszx) (fun z hz => (HRX.out.lt z hz).1)⟩
         rw [← moved_next _ _ _ _ HTK.out, ← Int.sub_eq_add_neg]
         exact hown1
        case measure => simp [intOf]; omega
       ·have hge : decide ((k : Int) < (m : Int)) = false := by simp; omega
        have e : k = m := by omega
        subst e
        have hks : nd.kids.take k = nd.kids := List.take_of_length_le (by rw [HMK.out]; exact Nat.le_refl _)
        have hrow := HRX.out
        rw [hks] at hrow
        have hkl : (nd.kids.map (· + -(f : Int))).length = k := by rw [List.length_map, HMK.out]
        rw [← hkl] at hrow
        obtain ⟨s0, s2, s3, s1⟩ := HSM.out
        obtain ⟨K', c', e', hko⟩ := kid_own (S := fun b => wo.heap.size + 1 ≤ b) hrow (wf_moved (B := 1048576) (fun x hx => by have := may_kids HMY.out HND.out x hx; have := HL.out; have := HT.out; omega) (by omega) (by omega)) s0 s2 s3 s1 (fun b hb => hb)
        rw [hkl] at e'
        subst e'
        have HKO := Lib.hid hko
        have HCS := Lib.hid (kid_cells (nd := nd) (K := K') (c := c') hkl)
        have hbx := HBX.out.mono (show (wo.alloc (.cells #[.int .i64 nd.kind, .string nd.name, .int .i64 nd.lo, .int .i64 nd.hi, .slice K k cK] 47)).heap.size ≤ wo.heap.size + 1 by simp)
        have hx0 := below_cell hbx (box_cell 0 (.int .i64 nd.kind) rfl)
        have hx1 := below_cell hbx (box_cell 1 (.string nd.name) rfl)
        have hx2 := below_cell hbx (box_cell 2 (.int .i64 nd.lo) rfl)
        have hx3 := below_cell hbx (box_cell 3 (.int .i64 nd.hi) rfl)
        have hx4 := below_cell hbx (box_cell 4 (.slice K k cK) rfl)
        have hfz : wr.frozen? ⟨wo.heap.size, 4, none⟩ = false := ((fcell hbx).2 wo.heap.size 4 (by simp)).trans (by simp)
        have HOX := Lib.hid (HO.out.below (HBO.out.setCell (p := ⟨wo.heap.size, 4, none⟩) (Nat.le_refl _) (.slice K' k c')))
        have HSZ := Lib.hid (show w.heap.size ≤ wr.heap.size from Nat.le_trans HB.out.size HBO.out.size)
        have HKN := Lib.hid (show KidOk (fun b => w.heap.size ≤ b ∧ some b ≠ Value.ownBlock u6) (wr.setCell ⟨wo.heap.size, 4, none⟩ (.slice K' k c')) ({ nd with kids := nd.kids.map (· + -(f : Int)) }, K', c') from
         (HKO.out.setCell _ _ (fun b hb e => by simp only at e hb; omega)).mono fun b _ hb => ⟨Nat.le_trans HB.out.size (by omega), fun e => by have := (HO.out.1.lt b e.symm).2; omega⟩)
        rw [← HWO.out] at *
        have HQ0 := Lib.hid (show (#[.int .i64 nd.kind, .string nd.name, .int .i64 nd.lo, .int .i64 nd.hi, .slice K' k c'] : Array Value) = (cellsS ({ nd with kids := nd.kids.map (· + -(f : Int)) }, K', c')).toArray by rw [HCS.out])
        have HQ1 := Lib.hid (show (wr.setCell ⟨wo.heap.size, 4, none⟩ (.slice K' k c')).heap.size = wr.heap.size by simp)
        have HQ2 := Lib.hid (show w.heap.size ≤ (wr.setCell ⟨wo.heap.size, 4, none⟩ (.slice K' k c')).heap.size by rw [HQ1.out]; exact HSZ.out)
        have HSL := Lib.hid (show σ.length ≤ 4194304 by have := HSG.out; omega)
        clear hrow hkl hks hko hbx HWO
        go_wp2_with (at_builtin; refine wpList_append_nd rfl (.tmp 54) (.tmp 56) 26 rfl w.heap.size j0 _ Tryz.underlying26 hj0 hy0 hy1 hy2 rfl _ σ (by rfl) (fun b => w.heap.size ≤ b) HOX.out ({ nd with kids := nd.kids.map (· + -(f : Int)) }, K', c') HKN.out _ _ HQ0.out wr.heap.size HQ1.out (by rfl) HSL.out HQ2.out ?_; intro v1 w3 hown1 hgr1 _)
        go_roundw
        case rel => exact ⟨j + 1, σ ++ [({ nd with kids := nd.kids.map (· + -(f : Int)) }, K', c')], by omega, by go_num, hown1, by rw [List.length_append, HSG.out]; rfl, by rw [List.map_append, HC.out, cut_next (by have := HL.out; omega) (by have := HT.out; omega) HND.out]; rfl, ((((HB.out.trans (HBO.out.mono HB.out.size)).setCell (p := ⟨wo.heap.size, 4, none⟩) HB.out.size _).alloc HQ2.out _).grown hgr1 (le_alloc HQ2.out) (fun z hz => (HO.out.1.lt z hz).1))⟩
        case measure => simp [intOf]; omega
     ·have hge : decide ((j : Int) < (t : Int)) = false := by simp; omega
      have e : j = t := by omega
      have HF := Lib.hid (GotNodes.own (w := w) HO.out (m := cutL l f q) (by rw [HC.out]; exact List.take_of_length_le (by unfold cutL; rw [List.length_map, part_len (by have := HL.out; omega)]; have := HT.out; omega)) (fun b hb _ => hb) HB.out)
      clear e
      go_wp2
      go_ret
      rw [HR.out]
      exact HF.out
end Go.Proofs.YtdbgaccnejffpaaGreat.Tree

namespace Go.Proofs.YtdbgaccnejffpaaGreat.Paths
open Go.RowKit Go.Proofs.YtdbgaccnejffpaaGreat.Ints Go.Proofs.YtdbgaccnejffpaaGreat.Mem Go.Proofs.YtdbgaccnejffpaaGreat.Src Go.Proofs.YtdbgaccnejffpaaGreat.Tree
theorem infoI : (Tryz.prog.info? 3).map (fun i => (i.zero, i.size, i.bytes)) = some (some (.int .i64 0), 1, 8) := by kernel_rfl
def kindN (l : List Nd) (k : Nat) : Int := (l[k]?.map (·.kind)).getD 0
theorem kind_of {l : List Nd} {k : Nat} {nd : Nd} (h : l[k]? = some nd) : kindN l k = nd.kind := by unfold kindN; rw [h]; rfl
def insideB (l : List Nd) (i : Nat) : Bool := (List.range l.length).any fun k => decide (i < k) && (decide (kindN l k = 19) && decide (startL l k ≤ i))
def placesL (l : List Nd) (kd : Int) : List Nat := (List.range l.length).filter fun i => decide (kindN l i = kd) && !insideB l i
def placesR (l : List Nd) (kd : Int) : List Nat := if regL l = true then placesL l kd else []
theorem inside_yes {l : List Nd} {i k : Nat} (hk : k < l.length) (h1 : i < k) (h2 : kindN l k = 19) (h3 : startL l k ≤ i) : insideB l i = true := by
 unfold insideB
 rw [List.any_eq_true]
 exact ⟨k, List.mem_range.2 hk, by rw [decide_eq_true h1, decide_eq_true h2, decide_eq_true h3]; rfl⟩
theorem inside_no {l : List Nd} {i : Nat} (h : ∀ k, i < k → k < l.length → ¬ (kindN l k = 19 ∧ startL l k ≤ i)) : insideB l i = false := by
 unfold insideB
 rw [List.any_eq_false]
 intro k hk hc
 rw [Bool.and_eq_true, Bool.and_eq_true, decide_eq_true_eq, decide_eq_true_eq, decide_eq_true_eq] at hc
 exact h k hc.1 (List.mem_range.1 hk) hc.2
set_option maxHeartbeats 4000000 in
set_option maxRecDepth 100000 in
theorem refInside (A : Option Addr) (n c i : Nat) (l : List Nd) (w : World) (hl : l.length = n) (_hnc : n ≤ c) (hn : n ≤ 1048576) (hi : i < n) (hm : mayL l = true) (h : Nodes Tree.Any w A l) :
  Calls Tryz.prog 137 #[.slice A n c, .int .i64 (i : Nat)] w fun e w' => e = .returned (.bool (insideB l i)) ∧ w' = w := by
 obtain ⟨b, off, e, hnodes⟩ := h (by omega)
 have HST := Lib.hid (fun k (hk : k < n) => refStart A n c k l w hl hn hk hm h)
 have HNS := Lib.hid hnodes
 subst e
 clear h hnodes
 go_enter Tryz.func137, Tryz.ntmps137
 go_wp2_with fail
 go_loopw [5] (fun v wr => ∃ k : Nat, v = .int .i64 (k : Nat) ∧ i < k ∧ k ≤ n ∧ Hid (∀ q, i < q → q < k → ¬ (kindN l q = 19 ∧ startL l q ≤ i)) ∧ wr = w) (fun v _ => n - (intOf v).toNat)
 case atStart => exact ⟨i + 1, by simp, by omega, by omega, Lib.hid (fun q h1 h2 => absurd h2 (by omega)), rfl⟩
 case round =>
  obtain ⟨k, rfl, hik, hkn, hb, rfl⟩ := hrel
  by_cases hlt : k < n
  ·obtain ⟨nd, hnd⟩ : ∃ nd, l[k]? = some nd := ⟨_, List.getElem?_eq_getElem (by omega)⟩
   obtain ⟨x0, -⟩ := HNS.out k nd hnd
   rw [Nat.mul_comm 5 k] at x0
   have HK := Lib.hid (kind_of hnd)
   have HS := Lib.hid (HST.out k hlt)
   obtain ⟨st, hst⟩ : ∃ st, startL l k = st := ⟨_, rfl⟩
   rw [hst] at HS
   have HSE := Lib.hid hst
   obtain ⟨kd, hkd⟩ : ∃ kd, nd.kind = kd := ⟨_, rfl⟩
   rw [hkd] at x0 HK
   clear hnd hst hkd HST
   have HMORE := Lib.hid (show ¬ (kd = 19 ∧ st ≤ i) → ∀ q, i < q → q < k + 1 → ¬ (kindN l q = 19 ∧ startL l q ≤ i) from fun hno q h1 h2 hc => by
    rcases Nat.lt_or_ge q k with h3 | h3
    ·exact hb.out q h1 h3 hc
    ·obtain rfl : q = k := by omega
     exact hno ⟨HK.out ▸ hc.1, HSE.out ▸ hc.2⟩)
   by_cases h19 : kd = 19
   ·have h19' : (kd == 19) = true := beq_iff_eq.2 h19
    by_cases hle : st ≤ i
    ·have HY := Lib.hid (inside_yes (l := l) (by omega) hik (HK.out.trans h19) (by rw [HSE.out]; exact hle))
     have hle' : (st : Int) ≤ (i : Int) := by omega
     clear h19
     go_wp2_with (go_at_call 99; refine HS.out.mono ?_; rintro e w1 ⟨rfl, rfl⟩)
     go_ret
     exact ⟨by rw [HY.out]; rfl, rfl⟩
    ·have HM := Lib.hid (HMORE.out (fun e => hle e.2))
     have hle' : ¬ (st : Int) ≤ (i : Int) := by omega
     clear h19
     go_wp2_with (go_at_call 99; refine HS.out.mono ?_; rintro e w1 ⟨rfl, rfl⟩)
     go_roundw
     case rel => exact ⟨k + 1, by simp, by omega, by omega, HM, by first | rfl | trivial⟩
     case measure => (show n - (k + 1) < n - k; omega)
   ·have HM := Lib.hid (HMORE.out (fun e => h19 e.1))
    have h19' : (kd == 19) = false := Bool.eq_false_iff.2 (fun e => h19 (beq_iff_eq.1 e))
    go_wp2_with fail
    go_roundw
    case rel => exact ⟨k + 1, by simp, by omega, by omega, HM, by first | rfl | trivial⟩
    case measure => (show n - (k + 1) < n - k; omega)
  ·have HN := Lib.hid (inside_no (l := l) (i := i) (fun q h1 h2 => hb.out q h1 (by omega)))
   go_wp2_with fail
   go_ret
   exact ⟨by rw [HN.out]; rfl, rfl⟩
def GotIdxs (w : World) (l : List Nat) (e : Ending) (w' : World) : Prop := ∃ A c, e = .returned (.slice A l.length c) ∧ Rd .i64 w' A l.length (l.map fun i => ((i : Nat) : Int)) ∧ l.length ≤ c ∧ c ≤ maxLen ∧ Below w.heap.size w w' ∧ (∀ a, A = some a → w.heap.size ≤ a.block)
theorem places_take (l : List Nd) (kd : Int) (i : Nat) : (List.range (i + 1)).filter (fun i => decide (kindN l i = kd) && !insideB l i) = (List.range i).filter (fun i => decide (kindN l i = kd) && !insideB l i) ++ (if (decide (kindN l i = kd) && !insideB l i) = true then [i] else []) := by
 rw [List.range_succ, List.filter_append, List.filter_cons, List.filter_nil]
set_option maxHeartbeats 8000000 in
set_option maxRecDepth 100000 in
theorem refPlaces (A : Option Addr) (n c : Nat) (l : List Nd) (kd : Int) (w : World) (hl : l.length = n) (hnc : n ≤ c) (hn : n ≤ 1048576) (h : Nodes Tree.Any w A l) :
  Calls Tryz.prog 120 #[.slice A n c, .int .i64 kd] w (GotIdxs w (placesR l kd)) := by
 have q63 : maxLen = 9223372036854775807 := rfl
 obtain ⟨i0, hi, hz0, hz1, hz2⟩ := info_parts infoI
 have HREG := Lib.hid (refReg A n c l w hl hn h)
 have H := Lib.hid h
 clear h
 go_enter Tryz.func120, Tryz.ntmps120
 go_wp2_with fail
 refine HREG.out.mono ?_
 rintro e w1 ⟨rfl, hB1⟩
 by_cases hreg : regL l = true
 rotate_left
 ·have hr : regL l = false := Bool.eq_false_iff.2 hreg
  have HP := Lib.hid (show placesR l kd = [] by unfold placesR; rw [hr]; rfl)
  rw [hr]
  go_wp2_with fail
  go_ret
  unfold GotIdxs
  rw [HP.out]
  exact ⟨none, 0, rfl, Rd.nil _ _ _, Nat.le_refl _, by decide, hB1, fun a e => by cases e⟩
 have hm : mayL l = true := by unfold regL at hreg; rw [Bool.and_eq_true] at hreg; exact hreg.1
 have HP := Lib.hid (show placesR l kd = placesL l kd by unfold placesR; rw [hreg]; rfl)
 have HIN := Lib.hid (fun i (hi : i < n) W (hb : Below w.heap.size w W) => refInside A n c i l W hl hnc hn hi hm (H.out.below hb))
 have HB1 := Lib.hid hB1
 have HKIND := Lib.hid (show ∀ i, i < n → ∀ W, Below w.heap.size w W → ∃ b off nd, A = some ⟨b, off, none⟩ ∧ l[i]? = some nd ∧ W.cell? ⟨b, off + i * 5, none⟩ = some (.int .i64 nd.kind) from fun i hi W hb => by
  obtain ⟨b, off, e, hns⟩ := (H.out.below hb) (by omega)
  obtain ⟨nd, hnd⟩ : ∃ nd, l[i]? = some nd := ⟨_, List.getElem?_eq_getElem (by omega)⟩
  obtain ⟨x0, -⟩ := hns i nd hnd
  rw [Nat.mul_comm 5 i] at x0
  exact ⟨b, off, nd, e, hnd, x0⟩)
 rw [hreg]
 clear hB1 hreg hm HREG
 go_wp2_with fail
 go_loopw [5, 12] (fun v vi wr => ∃ i : Nat, vi = .int .i64 (i : Nat) ∧ i ≤ n ∧ wr.ownsRow w.heap.size 3 1 v ((List.range i).filter (fun i => decide (kindN l i = kd) && !insideB l i)).length ((((List.range i).filter (fun i => decide (kindN l i = kd) && !insideB l i)).map fun i => ((i : Nat) : Int)).map (Value.int .i64)) ∧ Below w.heap.size w wr) (fun _ vi _ => n - (intOf vi).toNat)
 case atStart => exact ⟨0, rfl, Nat.zero_le _, World.ownsRow_nil _ _ _ _, HB1.out⟩
 case round =>
  obtain ⟨i, rfl, hin, hown, hB⟩ := hrel
  have HO := Lib.hid hown
  have HB := Lib.hid hB
  have hfl : ((List.range i).filter (fun i => decide (kindN l i = kd) && !insideB l i)).length ≤ i := by
   have := List.length_filter_le (fun i => decide (kindN l i = kd) && !insideB l i) (List.range i)
   rwa [List.length_range] at this
  have HNXT := Lib.hid (places_take l kd i)
  obtain ⟨xs, hxs⟩ : ∃ xs, (List.range i).filter (fun i => decide (kindN l i = kd) && !insideB l i) = xs := ⟨_, rfl⟩
  rw [hxs] at HO HNXT hfl hown
  obtain ⟨Ao, co, rfl, hco, hcm, -, -⟩ := own_slice hown
  clear hown hB
  by_cases hlt : i < n
  ·obtain ⟨b, off, nd, rfl, hnd, x0⟩ := HKIND.out i hlt _ HB.out
   have hk := kind_of hnd
   obtain ⟨k, hkk⟩ : ∃ k, nd.kind = k := ⟨_, rfl⟩
   rw [hkk] at x0 hk
   have HK := Lib.hid hk
   have HI := Lib.hid (HIN.out i hlt _ HB.out)
   obtain ⟨ins, hins⟩ : ∃ ins, insideB l i = ins := ⟨_, rfl⟩
   rw [hins] at HI
   have HINS := Lib.hid hins
   clear hnd hkk hk hins hxs
   by_cases he : k = kd
   ·have he' : (k == kd) = true := beq_iff_eq.2 he
    have HE := Lib.hid he
    clear he
    cases ins with
    | true =>
     have HX := Lib.hid (show (List.range (i + 1)).filter (fun i => decide (kindN l i = kd) && !insideB l i) = xs by rw [HNXT.out, HINS.out, Bool.not_true, Bool.and_false, if_neg (by simp), List.append_nil])
     go_wp2_with (go_at_call 137; refine HI.out.mono ?_; rintro e w2 ⟨rfl, rfl⟩)
     go_roundw
     case rel => exact ⟨i + 1, by simp, by omega, by rw [HX.out]; exact HO.out, HB.out⟩
     case measure => (show n - (i + 1) < n - i; omega)
    | false =>
     have HX := Lib.hid (show (List.range (i + 1)).filter (fun i => decide (kindN l i = kd) && !insideB l i) = xs ++ [i] by rw [HNXT.out, HINS.out, decide_eq_true (HK.out.trans HE.out)]; rfl)
     go_wp2_with fail
     refine HI.out.mono ?_
     rintro e w2 ⟨rfl, rfl⟩
     have hal := (Below.refl _ w2).alloc (Nat.le_refl _) (.cells #[.int .i64 (i : Nat)] 3)
     have HO2 := Lib.hid (Mem.below_row HO.out hal)
     have HR2 := Lib.hid (Rd.lit (k := .i64) w2 3 (0, 0) [((i : Nat) : Int)] (fun z hz => by rw [List.mem_singleton.1 hz]; simp [Lit.wf, IntKind.min, IntKind.max, IntKind.signed, IntKind.bits]; omega))
     have hbs : w.heap.size ≤ (w2.alloc (.cells #[.int .i64 (i : Nat)] 3)).heap.size := by have := HB.out.size; simp; omega
     go_wp2_with (at_builtin; refine wpList_append_ints rfl (.tmp 28) (.tmp 30) 29 rfl .i64 w.heap.size 3 i0 8 Tryz.underlying29 hi hz0 hz1 hz2 _ _ _ rfl HO2.out _ 1 1 [((i : Nat) : Int)] rfl HR2.out (by omega) (by omega) hbs ?_; intro v' w3 hown3 hgr3)
     go_roundw
     case rel => exact ⟨i + 1, by simp, by omega, by rw [HX.out, List.length_append, List.map_append]; exact hown3, (HB.out.trans (hal.mono HB.out.size)).grown hgr3 hbs (fun k hk => (HO2.out.lt k hk).1)⟩
     case measure => (show n - (i + 1) < n - i; omega)
   ·have he' : (k == kd) = false := Bool.eq_false_iff.2 (fun e => he (beq_iff_eq.1 e))
    have HX := Lib.hid (show (List.range (i + 1)).filter (fun i => decide (kindN l i = kd) && !insideB l i) = xs by rw [HNXT.out, decide_eq_false (fun e => he (HK.out.symm.trans e)), Bool.false_and, if_neg (by simp), List.append_nil])
    go_wp2_with fail
    go_roundw
    case rel => exact ⟨i + 1, by simp, by omega, by rw [HX.out]; exact HO.out, HB.out⟩
    case measure => (show n - (i + 1) < n - i; omega)
  ·obtain rfl : i = n := by omega
   have HXS := Lib.hid (show placesL l kd = xs by unfold placesL; rw [hl, hxs])
   clear hxs
   go_wp2_with fail
   go_ret
   unfold GotIdxs
   rw [HP.out, HXS.out]
   refine ⟨Ao, co, rfl, Rd.own HO.out (fun z hz => ?_), hco, hcm, HB.out, fun a e => ?_⟩
   ·obtain ⟨q, hq, rfl⟩ := List.mem_map.1 hz
    have hqi : q < i := by
     have h1 : q ∈ placesL l kd := by rw [HXS.out]; exact hq
     unfold placesL at h1
     have := List.mem_range.1 (List.mem_filter.1 h1).1
     omega
    simp [Lit.wf, IntKind.min, IntKind.max, IntKind.signed, IntKind.bits]
    omega
   ·subst e
    exact (HO.out.lt a.block rfl).1
theorem refTests (A : Option Addr) (n c : Nat) (l : List Nd) (w : World) (hl : l.length = n) (hnc : n ≤ c) (hn : n ≤ 1048576) (h : Nodes Tree.Any w A l) :
  Calls Tryz.prog 100 #[.slice A n c] w (GotIdxs w (placesR l 19)) := by
 have HP := Lib.hid (refPlaces A n c l 19 w hl hnc hn h)
 unfold GotIdxs at HP ⊢
 obtain ⟨xs, hxs⟩ : ∃ xs, placesR l 19 = xs := ⟨_, rfl⟩
 rw [hxs] at HP ⊢
 clear h hxs
 go_enter Tryz.func100, Tryz.ntmps100
 go_wp2_with (go_at_call 120; refine HP.out.mono ?_; rintro e w1 ⟨A1, c1, rfl, h1, h2, h3, h4, h5⟩)
 go_ret
 exact ⟨A1, c1, rfl, h1, h2, h3, h4, h5⟩
end Go.Proofs.YtdbgaccnejffpaaGreat.Paths
