/-
  The law SatUnwinds, over what SatDual's texts hold (stage 15). By an AI agent.
-/
import Derived.Test.YtdbgaccnejffpaaGreatDoorGSatDual1
import Derived.Test.YtdbgaccnejffpaaGreatDoorGSatDual2
import Derived.Test.YtdbgaccnejffpaaGreatDoorGSatDual3
import Derived.Test.YtdbgaccnejffpaaGreatDoorGSatDual4
import Derived.Test.YtdbgaccnejffpaaGreatDoorGSatDual5
import Derived.Test.YtdbgaccnejffpaaGreatDoorGSatDual6
import Derived.Test.YtdbgaccnejffpaaGreatDoorGSatDual7
import Derived.Test.YtdbgaccnejffpaaGreatDoorGSatDual8
import Derived.Test.YtdbgaccnejffpaaGreatDoorGSatDual9
import Derived.Test.YtdbgaccnejffpaaGreatDoorGSatDual10
import Derived.Test.YtdbgaccnejffpaaGreatDoorGSatDual11
import Derived.Test.YtdbgaccnejffpaaGreatDoorGSatDual12
import Derived.Test.YtdbgaccnejffpaaGreatDoorGSatDual13
import Derived.Test.YtdbgaccnejffpaaGreatDoorGSatDual14
import Derived.Test.YtdbgaccnejffpaaGreatDoorGSatDual15
import Derived.Test.YtdbgaccnejffpaaGreatDoorGSatDual16
import Derived.Test.YtdbgaccnejffpaaGreatDoorGSatDual17
import Derived.Test.YtdbgaccnejffpaaGreatDoorGSatDual18
import Derived.Test.YtdbgaccnejffpaaGreatDoorGSatDual19
import Derived.Test.YtdbgaccnejffpaaGreatDoorGSatDual20
import Derived.Test.YtdbgaccnejffpaaGreatDoorGSatDual21
import Derived.Test.YtdbgaccnejffpaaGreatDoorGSatDual22
import Derived.Test.YtdbgaccnejffpaaGreatDoorGSatDual23
import Derived.Test.YtdbgaccnejffpaaGreatDoorGSatDual24
import Derived.Test.YtdbgaccnejffpaaGreatDoorGSatDual25
import Derived.Test.YtdbgaccnejffpaaGreatDoorGSatDual26
import Derived.Test.YtdbgaccnejffpaaGreatDoorGSatDual27
import Derived.Test.YtdbgaccnejffpaaGreatDoorGSatDual28
import Derived.Test.YtdbgaccnejffpaaGreatDoorGSatDual29
import Derived.Test.YtdbgaccnejffpaaGreatDoorGSatDual30
import Derived.Test.YtdbgaccnejffpaaGreatDoorGSatDual31
import Derived.Test.YtdbgaccnejffpaaGreatDoorGSatDual32
import Derived.Test.YtdbgaccnejffpaaGreatDoorGSatDual33
import Derived.Test.YtdbgaccnejffpaaGreatDoorGSatDual34
import Derived.Test.YtdbgaccnejffpaaGreatDoorGSatDual35
import Derived.Test.YtdbgaccnejffpaaGreatDoorGSatDual36
import Derived.Test.YtdbgaccnejffpaaGreatDoorGSatDual37
import Derived.Test.YtdbgaccnejffpaaGreatDoorGSatDual38
import Derived.Test.YtdbgaccnejffpaaGreatDoorGSatDual39
import Derived.Test.YtdbgaccnejffpaaGreatDoorGSatDual40
import Derived.Test.YtdbgaccnejffpaaGreatDoorGSatDual41
import Derived.Test.YtdbgaccnejffpaaGreatDoorGSatDual42
import Derived.Test.YtdbgaccnejffpaaGreatDoorGSatDual43
import Derived.Test.YtdbgaccnejffpaaGreatDoorGSatDual44
import Derived.Test.YtdbgaccnejffpaaGreatDoorRows
import Derived.Deep.DeepHandedRow
import Derived.LaidMore
import Derived.Stop.Joined
import Derived.Lib.LaidTab
namespace Go.Proofs.YtdbgaccnejffpaaGreatDoor.Paths
theorem chain_iff {R : Nat → Nat → Prop} {i j : Nat} : Chain R i j ↔ i = j ∨ ∃ k, R i k ∧ Chain R k j := by
  constructor
  · rintro ⟨m, h⟩
    cases m with
    | zero => exact .inl h
    | succ m =>
      rcases h with h | ⟨k, h1, h2⟩
      · exact .inl h
      · exact .inr ⟨k, h1, m, h2⟩
  · rintro (h | ⟨k, h1, m, h2⟩)
    · subst h
      exact chain_refl R i
    · exact ⟨m + 1, .inr ⟨k, h1, h2⟩⟩
end Go.Proofs.YtdbgaccnejffpaaGreatDoor.Paths
namespace Go.Proofs.YtdbgaccnejffpaaGreatDoor.Sat
open Go.Proofs.YtdbgaccnejffpaaGreatDoor.Paths
theorem sem_on (T : Tm) : ∀ f : Fo, On T.n (sem T f) := by
  intro f
  induction f with
  | z k s =>
    intro i j h
    unfold sem at h
    split at h
    · exact ⟨by omega, h.2⟩
    · exact ⟨h.2.1, by have := h.1; have := h.2.1; omega⟩
  | o k lo hi a ih =>
    intro i j h
    unfold sem at h
    split at h
    · obtain ⟨h1, c, h2⟩ := h
      exact ⟨h1, chainN_on ih h2 h1⟩
    · exact ⟨h.2.1, by have := h.1; have := h.2.1; omega⟩
  | t k lo hi a b iha ihb =>
    intro i j h
    unfold sem at h
    split at h
    · exact h.elim (iha i j) (ihb i j)
    split at h
    · obtain ⟨m, h1, h2⟩ := h
      exact ⟨(iha i m h1).1, (ihb m j h2).2⟩
    · exact ⟨h.2.1, by have := h.1; have := h.2.1; omega⟩
end Go.Proofs.YtdbgaccnejffpaaGreatDoor.Sat
namespace Go.Proofs.YtdbgaccnejffpaaGreatDoor.Sat
open Go.Proofs.YtdbgaccnejffpaaGreatDoor.Paths
section
variable (T : Tm) (lo hi : Int) (a b r : Fo)
theorem until_on : Same T (.t 15 0 (-1) a b) (.t 6 0 0 b (.t 5 0 0 a (.o 9 0 (-1) (.t 15 0 (-1) a b)))) := fun p hp => by
  rw [sem_or hp, sem_and hp, sem_next hp]
  constructor
  · intro h
    obtain ⟨j, h1, h2, -, h4, h5⟩ := (sem_until hp).1 h
    by_cases e : p = j
    · subst e
      exact .inl h4
    · refine .inr ⟨h5 p (Nat.le_refl _) (by omega), by omega, near_ever _ _, (sem_until (by omega)).2 ⟨j, by omega, h2, near_ever _ _, h4, fun q q1 q2 => h5 q (by omega) q2⟩⟩
  · rintro (h | ⟨h1, h2, -, h3⟩)
    · exact (sem_until hp).2 ⟨p, Nat.le_refl _, hp, near_ever _ _, h, fun q _ _ => by omega⟩
    · obtain ⟨j, g1, g2, -, g4, g5⟩ := (sem_until h2).1 h3
      refine (sem_until hp).2 ⟨j, by omega, g2, near_ever _ _, g4, fun q q1 q2 => ?_⟩
      by_cases e : q = p
      · rwa [e]
      · exact g5 q (by omega) q2
theorem since_on : Same T (.t 14 0 (-1) a b) (.t 6 0 0 b (.t 5 0 0 a (.o 8 0 (-1) (.t 14 0 (-1) a b)))) := fun p hp => by
  rw [sem_or hp, sem_and hp, sem_prev hp]
  constructor
  · intro h
    obtain ⟨j, h1, -, h4, h5⟩ := (sem_since hp).1 h
    by_cases e : p = j
    · subst e
      exact .inl h4
    · refine .inr ⟨h5 p (by omega) (Nat.le_refl _), by omega, near_ever _ _, (sem_since (by omega)).2 ⟨j, by omega, near_ever _ _, h4, fun q q1 q2 => h5 q q1 (by omega)⟩⟩
  · rintro (h | ⟨h1, h2, -, h3⟩)
    · exact (sem_since hp).2 ⟨p, Nat.le_refl _, near_ever _ _, h, fun q _ _ => by omega⟩
    · obtain ⟨j, g1, -, g4, g5⟩ := (sem_since (by omega)).1 h3
      refine (sem_since hp).2 ⟨j, by omega, near_ever _ _, g4, fun q q1 q2 => ?_⟩
      by_cases e : q = p
      · rwa [e]
      · exact g5 q q1 (by omega)
theorem some_on : Same T (.o 12 0 (-1) a) (.t 6 0 0 a (.o 9 0 (-1) (.o 12 0 (-1) a))) := fun p hp => by
  rw [sem_or hp, sem_next hp]
  constructor
  · intro h
    obtain ⟨j, h1, h2, -, h4⟩ := (sem_some hp).1 h
    by_cases e : p = j
    · subst e
      exact .inl h4
    · exact .inr ⟨by omega, near_ever _ _, (sem_some (by omega)).2 ⟨j, by omega, h2, near_ever _ _, h4⟩⟩
  · rintro (h | ⟨h2, -, h3⟩)
    · exact (sem_some hp).2 ⟨p, Nat.le_refl _, hp, near_ever _ _, h⟩
    · obtain ⟨j, g1, g2, -, g4⟩ := (sem_some h2).1 h3
      exact (sem_some hp).2 ⟨j, by omega, g2, near_ever _ _, g4⟩
theorem once_on : Same T (.o 10 0 (-1) a) (.t 6 0 0 a (.o 8 0 (-1) (.o 10 0 (-1) a))) := fun p hp => by
  rw [sem_or hp, sem_prev hp]
  constructor
  · intro h
    obtain ⟨j, h1, -, h4⟩ := (sem_once hp).1 h
    by_cases e : p = j
    · subst e
      exact .inl h4
    · exact .inr ⟨by omega, near_ever _ _, (sem_once (by omega)).2 ⟨j, by omega, near_ever _ _, h4⟩⟩
  · rintro (h | ⟨h2, -, h3⟩)
    · exact (sem_once hp).2 ⟨p, Nat.le_refl _, near_ever _ _, h⟩
    · obtain ⟨j, g1, -, g4⟩ := (sem_once (by omega)).1 h3
      exact (sem_once hp).2 ⟨j, by omega, near_ever _ _, g4⟩
theorem fore_on (x1 x2 y1 y2 z1 z2 u1 u2 : Int) : Same T (.o 17 0 (-1) (.t 21 x1 x2 (.o 22 y1 y2 r) (.o 19 z1 z2 b))) (.t 6 0 0 b (.o 17 0 (-1) (.t 21 u1 u2 r (.t 21 x1 x2 (.o 22 y1 y2 r) (.o 19 z1 z2 b))))) := fun p hp => by
  have hM : ∀ i j, sem T (.t 21 x1 x2 (.o 22 y1 y2 r) (.o 19 z1 z2 b)) i j ↔ i < T.n ∧ Chain (sem T r) i j ∧ j < T.n ∧ sem T b j j := fun i j => by
    show (∃ m, (i < T.n ∧ Chain (sem T r) i m) ∧ (j = m ∧ m < T.n ∧ sem T b m m)) ↔ _
    constructor
    · rintro ⟨m, ⟨h1, h2⟩, rfl, h3, h4⟩; exact ⟨h1, h2, h3, h4⟩
    · rintro ⟨h1, h2, h3, h4⟩; exact ⟨j, ⟨h1, h2⟩, rfl, h3, h4⟩
  rw [sem_or hp, sem_fore hp, sem_fore hp]
  constructor
  · rintro ⟨j, h1, h2, h3, h4⟩
    obtain ⟨-, h5, -, h6⟩ := (hM p j).1 h4
    rcases chain_iff.1 h5 with e | ⟨q, g1, g2⟩
    · subst e
      exact .inl h6
    · exact .inr ⟨j, h1, h2, h3, ⟨q, g1, (hM q j).2 ⟨(sem_on T r p q g1).2, g2, h2, h6⟩⟩⟩
  · rintro (h | ⟨j, h1, h2, h3, ⟨q, g1, g2⟩⟩)
    · exact ⟨p, Nat.le_refl _, hp, near_ever _ _, (hM p p).2 ⟨hp, chain_refl _ _, hp, h⟩⟩
    · obtain ⟨-, g3, -, g4⟩ := (hM q j).1 g2
      exact ⟨j, h1, h2, h3, (hM p j).2 ⟨hp, chain_trans (chain_one g1) g3, h2, g4⟩⟩
end
end Go.Proofs.YtdbgaccnejffpaaGreatDoor.Sat
namespace Go.Proofs.YtdbgaccnejffpaaGreatDoor.Tree
open Go.RowKit Go.Proofs.YtdbgaccnejffpaaGreatDoor.Ints
def regMk (pl : Bool) (zs : List Int) : List Nd := lastOr (buildL pl zs).2 [kindNd 18]
theorem reg_ok (pl : Bool) (zs : List Int) (h : ∀ z ∈ zs, 0 ≤ z ∧ z ≤ 65535) : G false pl (regMk pl zs) ∧ (regMk pl zs).length ≤ 100 := by
  have hb := buildL_ok pl zs h
  exact lastOr_ok hb.r (single_ok rfl (show regKind 18 = _ by decide) (show kidc 18 = 0 by decide) (kind_fields (by omega)) (fun _ => show sweet 18 = false by decide)) (by decide) (by have := hb.t; omega)
set_option maxHeartbeats 4000000 in
set_option maxRecDepth 100000 in
theorem lawReg (A : Option Addr) (n c : Nat) (zs : List Int) (pl : Bool) (w : World) (h : Rd .u16 w A n zs) (hn : n ≤ maxLen) :
    Calls Tryz.prog 13 #[.slice A n c, .bool pl] w (GotNodes Any w (regMk pl zs)) := by
  have HBD := Lib.hid (lawBuild A n c zs pl w h hn)
  have HOK := Lib.hid (buildL_ok pl zs fun z hz => wf_u16 (h.all z hz))
  clear h hn
  go_enter Tryz.func13, Tryz.ntmps13
  go_wp2_with fail
  refine HBD.out.mono ?_
  rintro e w1 ⟨Af, Ar, cf, cr, F, R, rfl, hp, hP, hb⟩
  have hm : regMk pl zs = lastOr (R.map (·.1)) [kindNd 18] := by unfold regMk; rw [← hP]
  have hz : F.length ≤ 100000 ∧ R.length ≤ 100000 := by
    have hok := HOK.out
    rw [← hP] at hok
    have h1 := (small_of (k := 100) hok.f (by have := hok.t; simp only at this; omega) (by omega)).2
    have h2 := (small_of (k := 100) hok.r (by have := hok.t; simp only at this; omega) (by omega)).2
    omega
  obtain ⟨hz1, hz2⟩ := hz
  have HP := Lib.hid hp
  have HM := Lib.hid hm
  have HB := Lib.hid hb
  clear hp hP hm hb
  obtain ⟨q, hq⟩ : ∃ q, R.length = q := ⟨_, rfl⟩
  cases q with
  | zero =>
    have HR := Lib.hid (lastOr_zero (d := [kindNd 18]) hq)
    rw [hq]
    clear hq
    go_wp2
    go_ret
    rw [HM.out, HR.out]
    exact got_single (by omega) HB.out _
  | succ p =>
    obtain ⟨g, l, K, cK, e, hs, hc, hN, hl, hm⟩ := last_at_lists HP.out.2.1 hq
    have HR := Lib.hid (lastOr_some (d := [kindNd 18]) hq hs)
    have HN := Lib.hid hN
    have HLM := Lib.hid (And.intro hl hm)
    have hpp : (p : Int) ≤ 99999 := by omega
    have hp2 : ((p : Int) + 1 == 0) = false := beq_eq_false_iff_ne.2 (by omega)
    have hp0 : (0 : Int) ≤ (p : Int) := by omega
    have hca := below_cell ((Below.refl w1.heap.size w1).alloc (Nat.le_refl _) (.cells #[.slice Af F.length cf, .slice Ar R.length cr] 50)) hc
    rw [hq] at hca ⊢
    subst e
    clear hq hs hN hl hm hz1 hz2
    go_wp2
    go_ret
    rw [HM.out, HR.out]
    exact ⟨K, cK, rfl, HN.out.below ((Below.refl _ _).alloc (Nat.le_refl _) _), HLM.out.1, HLM.out.2, HB.out.alloc HB.out.size _⟩
end Go.Proofs.YtdbgaccnejffpaaGreatDoor.Tree
namespace Go.Proofs.YtdbgaccnejffpaaGreatDoor.Sat
open Go.RowKit Go.Proofs.YtdbgaccnejffpaaGreatDoor.Ints Go.Proofs.YtdbgaccnejffpaaGreatDoor.Mem Go.Proofs.YtdbgaccnejffpaaGreatDoor.Src Go.Proofs.YtdbgaccnejffpaaGreatDoor.Paths Go.Proofs.YtdbgaccnejffpaaGreatDoor.Late Go.Proofs.YtdbgaccnejffpaaGreatDoor.Trace
theorem smallE : Tree.small64 0 ∧ Tree.small64 (-1) := by unfold Tree.small64; omega
set_option maxHeartbeats 64000000 in
set_option maxRecDepth 100000 in
theorem lawUnwindsS (start : Int) (A : Option Addr) (n c : Nat) (zs : List Int) (B : Option Addr) (m d : Nat) (ys : List Int) (C : Option Addr) (q f : Nat) (xs : List Int) (E : Option Addr) (k l : Nat) (us : List Int) (w : World) (h0 : 0 ≤ start ∧ start ≤ 18446744073709551615) (hr : Rd .u16 w A n zs) (hc : n ≤ maxLen) (hr2 : Rd .u16 w B m ys) (hc2 : m ≤ maxLen) (hr3 : Rd .u16 w C q xs) (hc3 : q ≤ maxLen) (hr4 : Rd .u16 w E k us) (hc4 : k ≤ maxLen) (hv : NoneV w) :
    Calls Tryz.prog 4 #[.int .u64 start, .slice A n c, .slice B m d, .slice C q f, .slice E k l] w fun e w' => e = .returned (.bool true) ∧ Below w.heap.size w w' := by
  have HMK1 := Lib.hid (Trace.lawMake start A n c zs w h0 hr hc)
  have HMK2 := Lib.hid (fun W (hb : Below w.heap.size w W) => Tree.lawMake B m d ys false W (hr2.below hb) hc2)
  have HMK3 := Lib.hid (fun W (hb : Below w.heap.size w W) => Tree.lawMake C q f xs false W (hr3.below hb) hc3)
  have HMK4 := Lib.hid (fun W (hb : Below w.heap.size w W) => Tree.lawReg E k l us false W (hr4.below hb) hc4)
  obtain ⟨t, hT⟩ : ∃ T, makeM start zs = T := ⟨_, rfl⟩
  obtain ⟨L1, hL1⟩ : ∃ L, Tree.makeL false ys = L := ⟨_, rfl⟩
  obtain ⟨L2, hL2⟩ : ∃ L, Tree.makeL false xs = L := ⟨_, rfl⟩
  obtain ⟨L3, hL3⟩ : ∃ L, Tree.regMk false us = L := ⟨_, rfl⟩
  have HMT := Lib.hid (show mayT t = true by rw [← hT]; exact make_may zs (fun z hz => (wf_u16 (hr.all z hz)).1))
  have hl60 : t.events.length ≤ 60 := by rw [← hT]; exact (make_small start zs).1
  have HG1 := Lib.hid (show Tree.G true false L1 ∧ L1.length ≤ 100 from by rw [← hL1]; exact Tree.make_ok false ys (fun z hz => wf_u16 (hr2.all z hz)))
  have HG2 := Lib.hid (show Tree.G true false L2 ∧ L2.length ≤ 100 from by rw [← hL2]; exact Tree.make_ok false xs (fun z hz => wf_u16 (hr3.all z hz)))
  have HG3 := Lib.hid (show Tree.G false false L3 ∧ L3.length ≤ 100 from by rw [← hL3]; exact Tree.reg_ok false us (fun z hz => wf_u16 (hr4.all z hz)))
  rw [hT] at HMK1
  rw [hL1] at HMK2
  rw [hL2] at HMK3
  rw [hL3] at HMK4
  have HAW := Lib.hid (fun V => awake V)
  have HNV := Lib.hid hv
  clear hT hL1 hL2 hL3 hr hc hr2 hc2 hr3 hc3 hr4 hc4 h0 hv
  go_enter Tryz.func4, Tryz.ntmps4
  go_wp2_with fail
  refine (HMK1.out).mono ?_
  rintro e w1 ⟨NA, nn, nc, EA, ne, ec, rfl, hTU, hb1⟩
  have D1 := Lib.hid hb1
  have HT1 := Lib.hid hTU
  have hne : ne ≤ 60 := by rw [← hTU.elen]; exact hl60
  clear hTU hb1 hl60
  go_wp2_with fail
  refine (HMK2.out _ D1.out).mono ?_
  rintro e w2 ⟨Aa, ca, rfl, hNL, hcL, hcM, hb2⟩
  have D2 := Lib.hid (D1.out.trans (hb2.mono D1.out.size))
  have HT2 := Lib.hid (HT1.out.below hb2)
  have HA2 := Lib.hid (nodes_fl hNL ⟨hcL, hcM⟩ HG1.out.1)
  obtain ⟨na, hna⟩ : ∃ nl, L1.length = nl := ⟨_, rfl⟩
  have hna2 : na ≤ 100 := by rw [← hna]; exact HG1.out.2
  rw [hna] at HA2 ⊢
  clear hNL hcL hcM hb2 hna
  go_wp2_with fail
  refine (HMK3.out _ D2.out).mono ?_
  rintro e w3 ⟨Ab, cb, rfl, hNL, hcL, hcM, hb3⟩
  have D3 := Lib.hid (D2.out.trans (hb3.mono D2.out.size))
  have HT3 := Lib.hid (HT2.out.below hb3)
  have HA3 := Lib.hid (HA2.out.below hb3)
  have HB3 := Lib.hid (nodes_fl hNL ⟨hcL, hcM⟩ HG2.out.1)
  obtain ⟨nb, hnb⟩ : ∃ nl, L2.length = nl := ⟨_, rfl⟩
  have hnb2 : nb ≤ 100 := by rw [← hnb]; exact HG2.out.2
  rw [hnb] at HB3 ⊢
  clear hNL hcL hcM hb3 hnb
  go_wp2_with fail
  refine (HMK4.out _ D3.out).mono ?_
  rintro e w4 ⟨Ar, cr, rfl, hNL, hcL, hcM, hb4⟩
  have HR4 := Lib.hid (nodes_fl hNL ⟨hcL, hcM⟩ HG3.out.1)
  obtain ⟨nr, hnr⟩ : ∃ nl, L3.length = nl := ⟨_, rfl⟩
  have hnr2 : nr ≤ 100 := by rw [← hnr]; exact HG3.out.2
  rw [hnr] at HR4 ⊢
  obtain ⟨gT, hgT⟩ : ∃ g, w4.heap.size = g := ⟨_, rfl⟩
  obtain ⟨X, hX⟩ : ∃ X, w4.alloc (.cells #[.slice NA nn nc, .slice EA ne ec] 28) = X := ⟨_, rfl⟩
  obtain ⟨V, hV⟩ : ∃ V, X.alloc (.cells #[.int .i64 0, .int .i64 (-1)] 33) = V := ⟨_, rfl⟩
  have h4X : Below w4.heap.size w4 X := by rw [← hX]; exact (Below.refl _ _).alloc (Nat.le_refl _) _
  have hXV : Below X.heap.size X V := by rw [← hV]; exact (Below.refl _ _).alloc (Nat.le_refl _) _
  have h4V : Below w4.heap.size w4 V := h4X.trans (hXV.mono h4X.size)
  have h3V : Below w3.heap.size w3 V := hb4.trans (h4V.mono hb4.size)
  have hgX : X.heap.size = gT + 1 := by rw [← hX, ← hgT]; simp
  have D4 := Lib.hid (D3.out.trans (hb4.mono D3.out.size))
  have B0 := Lib.hid (D3.out.trans (h3V.mono D3.out.size))
  have D0 := Lib.hid (show Du V gT (gT + 1) NA nn nc EA ne ec t 0 (-1) from ⟨HT3.out.below h3V, below_cell hXV (by rw [← hX, ← hgT]; exact box_cell 0 _ rfl), below_cell hXV (by rw [← hX, ← hgT]; exact box_cell 1 _ rfl),
    by rw [← hV, ← hgX]; exact box_cell 0 _ rfl, by rw [← hV, ← hgX]; exact box_cell 1 _ rfl, HNV.out.below B0.out⟩)
  have Ha_0 := Lib.hid (HA3.out.below h3V)
  have Hb_0 := Lib.hid (HB3.out.below h3V)
  have Hr_0 := Lib.hid (HR4.out.below h4V)
  have HE := Lib.hid (And.intro hgT (And.intro hX hV))
  clear hNL hcL hcM hb4 hnr hgT hX hV h4X hXV h4V h3V hgX HT1 HT2 HT3 HA2 HA3 HB3 HR4 D1 D2 D3 D4
  go_wp2_with fail
  rw [HE.out.2.1, HE.out.2.2, HE.out.1]
  have x0 := D0.out.x0
  have x1 := D0.out.x1
  have s0 := D0.out.s0
  have s1 := D0.out.s1
  obtain ⟨v0, v1⟩ := D0.out.nv
  go_wp2_with fail
  refine wp_region_held_drew (S := fun U => (((U.cell? ⟨gT, 0, none⟩ = some (.slice NA nn nc) ∧ U.cell? ⟨gT, 1, none⟩ = some (.slice EA ne ec)) ∧ U.cell? ⟨gT + 1, 0, none⟩ = some (.int .i64 0) ∧ U.cell? ⟨gT + 1, 1, none⟩ = some (.int .i64 (-1))) ∧ U.cell? ⟨0, 0, none⟩ = some (.int .i64 0) ∧ U.cell? ⟨0, 1, none⟩ = some (.int .i64 0)) ∧ Below V.heap.size V U) (by kernel_rfl) ⟨⟨⟨⟨x0, x1⟩, s0, s1⟩, v0, v1⟩, (Below.refl _ _).drew⟩ (fun hHeld => ?_)
  clear x0 x1 s0 s1 v0 v1
  have Ha_r0 := Lib.hid (Ha_0.out.below hHeld.2)
  have Hb_r0 := Lib.hid (Hb_0.out.below hHeld.2)
  have Hr_r0 := Lib.hid (Hr_0.out.below hHeld.2)
  clear Ha_0 Hb_0 Hr_0
  refine tkOp 0 hHeld ?_
  refine tkOp 1 hHeld ?_
  refine tkOp 2 hHeld ?_
  refine tkOp 4 hHeld ?_
  refine tkOp 5 hHeld ?_
  refine tkOp 6 hHeld ?_
  refine tkCall 3 (fun Kt hKt => ?_)
  go_simp
  (go_at_call 11; refine (lawTwoF (kd := 15) (lo := 0) (hi := -1) Ha_r0.out Hb_r0.out (by omega) (by omega) (by decide) (by decide) (by decide) smallE).mono ?_; rintro e w1 ⟨AU, nU, cU, rfl, fU, lU, h1⟩; have hB1 := hHeld.2.trans (h1.mono hHeld.2.size); have Ha_1 := Lib.hid (Ha_r0.out.below h1); have Hb_1 := Lib.hid (Hb_r0.out.below h1); have Hr_1 := Lib.hid (Hr_r0.out.below h1); have bU : nU ≤ 201 := (by omega); have HU_1 := Lib.hid fU; clear Ha_r0 Hb_r0 Hr_r0 fU lU)
  refine hKt.out _ _ ?_ (fun hT => ?_)
  · (exact ⟨keep6 h1 hHeld.1, hB1⟩)
  clear hKt Kt hHeld
  have hHeld := hT
  clear hT
  try simp only [Act.put, tkA, tkB, tkC]
  clear h1 hB1
  refine tkCall 7 (fun Kt hKt => ?_)
  go_simp
  (go_at_call 11; refine (lawTwoF (kd := 14) (lo := 0) (hi := -1) Ha_1.out Hb_1.out (by omega) (by omega) (by decide) (by decide) (by decide) smallE).mono ?_; rintro e w2 ⟨AS, nS, cS, rfl, fS, lS, h2⟩; have hB2 := hHeld.2.trans (h2.mono hHeld.2.size); have Ha_2 := Lib.hid (Ha_1.out.below h2); have Hb_2 := Lib.hid (Hb_1.out.below h2); have Hr_2 := Lib.hid (Hr_1.out.below h2); have HU_2 := Lib.hid (HU_1.out.below h2); have bS : nS ≤ 201 := (by omega); have HS_2 := Lib.hid fS; clear Ha_1 Hb_1 Hr_1 HU_1 fS lS)
  refine hKt.out _ _ ?_ (fun hT => ?_)
  · (exact ⟨keep6 h2 hHeld.1, hB2⟩)
  clear hKt Kt hHeld
  have hHeld := hT
  clear hT
  try simp only [Act.put, tkA, tkB, tkC]
  clear h2 hB2
  refine tkOp 8 hHeld ?_
  refine tkOp 9 hHeld ?_
  refine wpAnyH_done (by kernel_rfl) ?_ _
  have DR0 := Lib.hid (D0.out.below hHeld.2)
  have BR0 := Lib.hid (B0.out.trans (hHeld.2.mono B0.out.size))
  clear hHeld D0 B0
  have x0 := DR0.out.x0
  have x1 := DR0.out.x1
  have s0 := DR0.out.s0
  have s1 := DR0.out.s1
  obtain ⟨v0, v1⟩ := DR0.out.nv
  go_wp2_with fail
  refine wp_region_held_drew (S := fun U => (((U.cell? ⟨gT, 0, none⟩ = some (.slice NA nn nc) ∧ U.cell? ⟨gT, 1, none⟩ = some (.slice EA ne ec)) ∧ U.cell? ⟨gT + 1, 0, none⟩ = some (.int .i64 0) ∧ U.cell? ⟨gT + 1, 1, none⟩ = some (.int .i64 (-1))) ∧ U.cell? ⟨0, 0, none⟩ = some (.int .i64 0) ∧ U.cell? ⟨0, 1, none⟩ = some (.int .i64 0)) ∧ Below w2.heap.size w2 U) (by kernel_rfl) ⟨⟨⟨⟨x0, x1⟩, s0, s1⟩, v0, v1⟩, (Below.refl _ _).drew⟩ (fun hHeld => ?_)
  clear x0 x1 s0 s1 v0 v1
  have Ha_r1 := Lib.hid (Ha_2.out.below hHeld.2)
  have Hb_r1 := Lib.hid (Hb_2.out.below hHeld.2)
  have Hr_r1 := Lib.hid (Hr_2.out.below hHeld.2)
  have HU_r1 := Lib.hid (HU_2.out.below hHeld.2)
  have HS_r1 := Lib.hid (HS_2.out.below hHeld.2)
  clear Ha_2 Hb_2 Hr_2 HU_2 HS_2
  refine tkOp 0 hHeld ?_
  refine tkOp 1 hHeld ?_
  refine tkOp 3 hHeld ?_
  refine tkOp 4 hHeld ?_
  refine tkCall 2 (fun Kt hKt => ?_)
  go_simp
  (go_at_call 9; refine (lawOneF (kd := 12) (lo := 0) (hi := -1) Ha_r1.out (by omega) (by decide) (by decide) (by decide) smallE).mono ?_; rintro e w3 ⟨AM, nM, cM, rfl, fM, lM, h3⟩; have hB3 := hHeld.2.trans (h3.mono hHeld.2.size); have Ha_3 := Lib.hid (Ha_r1.out.below h3); have Hb_3 := Lib.hid (Hb_r1.out.below h3); have Hr_3 := Lib.hid (Hr_r1.out.below h3); have HU_3 := Lib.hid (HU_r1.out.below h3); have HS_3 := Lib.hid (HS_r1.out.below h3); have bM : nM ≤ 101 := (by omega); have HM_3 := Lib.hid fM; clear Ha_r1 Hb_r1 Hr_r1 HU_r1 HS_r1 fM lM)
  refine hKt.out _ _ ?_ (fun hT => ?_)
  · (exact ⟨keep6 h3 hHeld.1, hB3⟩)
  clear hKt Kt hHeld
  have hHeld := hT
  clear hT
  try simp only [Act.put, tkA, tkB, tkC]
  clear h3 hB3
  refine tkCall 5 (fun Kt hKt => ?_)
  go_simp
  (go_at_call 9; refine (lawOneF (kd := 10) (lo := 0) (hi := -1) Ha_3.out (by omega) (by decide) (by decide) (by decide) smallE).mono ?_; rintro e w4 ⟨AO, nO, cO, rfl, fO, lO, h4⟩; have hB4 := hHeld.2.trans (h4.mono hHeld.2.size); have Ha_4 := Lib.hid (Ha_3.out.below h4); have Hb_4 := Lib.hid (Hb_3.out.below h4); have Hr_4 := Lib.hid (Hr_3.out.below h4); have HU_4 := Lib.hid (HU_3.out.below h4); have HS_4 := Lib.hid (HS_3.out.below h4); have HM_4 := Lib.hid (HM_3.out.below h4); have bO : nO ≤ 101 := (by omega); have HO_4 := Lib.hid fO; clear Ha_3 Hb_3 Hr_3 HU_3 HS_3 HM_3 fO lO)
  refine hKt.out _ _ ?_ (fun hT => ?_)
  · (exact ⟨keep6 h4 hHeld.1, hB4⟩)
  clear hKt Kt hHeld
  have hHeld := hT
  clear hT
  try simp only [Act.put, tkA, tkB, tkC]
  clear h4 hB4
  refine tkOp 6 hHeld ?_
  refine tkOp 7 hHeld ?_
  refine wpAnyH_done (by kernel_rfl) ?_ _
  have DR1 := Lib.hid (DR0.out.below hHeld.2)
  have BR1 := Lib.hid (BR0.out.trans (hHeld.2.mono BR0.out.size))
  clear hHeld DR0 BR0
  have x0 := DR1.out.x0
  have x1 := DR1.out.x1
  have s0 := DR1.out.s0
  have s1 := DR1.out.s1
  obtain ⟨v0, v1⟩ := DR1.out.nv
  go_wp2_with fail
  refine (lawOneF (kd := 22) (lo := 0) (hi := 0) Hr_4.out (by omega) (by decide) (by decide) (by decide) small0).mono ?_
  rintro e w5p ⟨Am, nm, cm, rfl, fm, lm, h5⟩
  have Ha_p5 := Lib.hid (Ha_4.out.below h5)
  have Hb_p5 := Lib.hid (Hb_4.out.below h5)
  have Hr_p5 := Lib.hid (Hr_4.out.below h5)
  have HU_p5 := Lib.hid (HU_4.out.below h5)
  have HS_p5 := Lib.hid (HS_4.out.below h5)
  have HM_p5 := Lib.hid (HM_4.out.below h5)
  have HO_p5 := Lib.hid (HO_4.out.below h5)
  have bm : nm ≤ 101 := by omega
  have Hm_p5 := Lib.hid (show FL _ _ _ _ false _ from fm)
  have DP5 := Lib.hid (DR1.out.below h5)
  have BP5 := Lib.hid (BR1.out.trans (h5.mono BR1.out.size))
  clear h5 fm lm x0 x1 s0 s1 v0 v1 DR1 BR1 Ha_4 Hb_4 Hr_4 HU_4 HS_4 HM_4 HO_4
  have x0 := DP5.out.x0
  have x1 := DP5.out.x1
  have s0 := DP5.out.s0
  have s1 := DP5.out.s1
  obtain ⟨v0, v1⟩ := DP5.out.nv
  go_wp2_with fail
  refine wp_region_held_drew (S := fun U => (((U.cell? ⟨gT, 0, none⟩ = some (.slice NA nn nc) ∧ U.cell? ⟨gT, 1, none⟩ = some (.slice EA ne ec)) ∧ U.cell? ⟨gT + 1, 0, none⟩ = some (.int .i64 0) ∧ U.cell? ⟨gT + 1, 1, none⟩ = some (.int .i64 (-1))) ∧ U.cell? ⟨0, 0, none⟩ = some (.int .i64 0) ∧ U.cell? ⟨0, 1, none⟩ = some (.int .i64 0)) ∧ Below w5p.heap.size w5p U) (by kernel_rfl) ⟨⟨⟨⟨x0, x1⟩, s0, s1⟩, v0, v1⟩, (Below.refl _ _).drew⟩ (fun hHeld => ?_)
  clear x0 x1 s0 s1 v0 v1
  have Ha_r3 := Lib.hid (Ha_p5.out.below hHeld.2)
  have Hb_r3 := Lib.hid (Hb_p5.out.below hHeld.2)
  have Hr_r3 := Lib.hid (Hr_p5.out.below hHeld.2)
  have HU_r3 := Lib.hid (HU_p5.out.below hHeld.2)
  have HS_r3 := Lib.hid (HS_p5.out.below hHeld.2)
  have HM_r3 := Lib.hid (HM_p5.out.below hHeld.2)
  have HO_r3 := Lib.hid (HO_p5.out.below hHeld.2)
  have Hm_r3 := Lib.hid (Hm_p5.out.below hHeld.2)
  clear Ha_p5 Hb_p5 Hr_p5 HU_p5 HS_p5 HM_p5 HO_p5 Hm_p5
  refine tkOp 0 hHeld ?_
  refine tkOp 1 hHeld ?_
  refine tkOp 2 hHeld ?_
  refine tkOp 3 hHeld ?_
  refine tkCall 4 (fun Kt hKt => ?_)
  go_simp
  (go_at_call 9; refine (lawOneF (kd := 19) (lo := 0) (hi := 0) Hb_r3.out (by omega) (by decide) (by decide) (by decide) small0).mono ?_; rintro e w6 ⟨Ax, nx, cx, rfl, fx, lx, h6⟩; have hB6 := hHeld.2.trans (h6.mono hHeld.2.size); have Ha_6 := Lib.hid (Ha_r3.out.below h6); have Hb_6 := Lib.hid (Hb_r3.out.below h6); have Hr_6 := Lib.hid (Hr_r3.out.below h6); have HU_6 := Lib.hid (HU_r3.out.below h6); have HS_6 := Lib.hid (HS_r3.out.below h6); have HM_6 := Lib.hid (HM_r3.out.below h6); have HO_6 := Lib.hid (HO_r3.out.below h6); have Hm_6 := Lib.hid (Hm_r3.out.below h6); have bx : nx ≤ 101 := (by omega); have Hx_6 := Lib.hid fx; clear Ha_r3 Hb_r3 Hr_r3 HU_r3 HS_r3 HM_r3 HO_r3 Hm_r3 fx lx)
  refine hKt.out _ _ ?_ (fun hT => ?_)
  · (exact ⟨keep6 h6 hHeld.1, hB6⟩)
  clear hKt Kt hHeld
  have hHeld := hT
  clear hT
  try simp only [Act.put, tkA, tkB, tkC]
  clear h6 hB6
  have Hx_6z := Lib.hid (show FL _ _ _ _ false _ from Hx_6.out)
  clear Hx_6
  refine tkCall 5 (fun Kt hKt => ?_)
  go_simp
  (go_at_call 11; refine (lawTwoF (kd := 21) (lo := 0) (hi := 0) Hm_6.out Hx_6z.out (by omega) (by omega) (by decide) (by decide) (by decide) small0).mono ?_; rintro e w7 ⟨Ag, ng, cg, rfl, fg, lg, h7⟩; have hB7 := hHeld.2.trans (h7.mono hHeld.2.size); have Ha_7 := Lib.hid (Ha_6.out.below h7); have Hb_7 := Lib.hid (Hb_6.out.below h7); have Hr_7 := Lib.hid (Hr_6.out.below h7); have HU_7 := Lib.hid (HU_6.out.below h7); have HS_7 := Lib.hid (HS_6.out.below h7); have HM_7 := Lib.hid (HM_6.out.below h7); have HO_7 := Lib.hid (HO_6.out.below h7); have bg : ng ≤ 203 := (by omega); have Hg_7 := Lib.hid fg; clear Ha_6 Hb_6 Hr_6 HU_6 HS_6 HM_6 HO_6 Hm_6 Hx_6z fg lg)
  refine hKt.out _ _ ?_ (fun hT => ?_)
  · (exact ⟨keep6 h7 hHeld.1, hB7⟩)
  clear hKt Kt hHeld
  have hHeld := hT
  clear hT
  try simp only [Act.put, tkA, tkB, tkC]
  clear h7 hB7
  have Hg_7z := Lib.hid (show FL _ _ _ _ false _ from Hg_7.out)
  clear Hg_7
  refine tkOp 6 hHeld ?_
  refine wpAnyH_done (by kernel_rfl) ?_ _
  have DR3 := Lib.hid (DP5.out.below hHeld.2)
  have BR3 := Lib.hid (BP5.out.trans (hHeld.2.mono BP5.out.size))
  clear hHeld DP5 BP5
  have x0 := DR3.out.x0
  have x1 := DR3.out.x1
  have s0 := DR3.out.s0
  have s1 := DR3.out.s1
  obtain ⟨v0, v1⟩ := DR3.out.nv
  go_wp2_with fail
  refine (lawTwoF (kd := 21) (lo := 0) (hi := 0) Hr_7.out Hg_7z.out (by omega) (by omega) (by decide) (by decide) (by decide) small0).mono ?_
  rintro e w8p ⟨At, nt, ct, rfl, ft, lt, h8⟩
  have Ha_p8 := Lib.hid (Ha_7.out.below h8)
  have Hb_p8 := Lib.hid (Hb_7.out.below h8)
  have HU_p8 := Lib.hid (HU_7.out.below h8)
  have HS_p8 := Lib.hid (HS_7.out.below h8)
  have HM_p8 := Lib.hid (HM_7.out.below h8)
  have HO_p8 := Lib.hid (HO_7.out.below h8)
  have Hg_p8 := Lib.hid (Hg_7z.out.below h8)
  have bt : nt ≤ 304 := by omega
  have Ht_p8 := Lib.hid (show FL _ _ _ _ false _ from ft)
  have DP8 := Lib.hid (DR3.out.below h8)
  have BP8 := Lib.hid (BR3.out.trans (h8.mono BR3.out.size))
  clear h8 ft lt x0 x1 s0 s1 v0 v1 DR3 BR3 Ha_7 Hb_7 Hr_7 HU_7 HS_7 HM_7 HO_7 Hg_7z
  have x0 := DP8.out.x0
  have x1 := DP8.out.x1
  have s0 := DP8.out.s0
  have s1 := DP8.out.s1
  obtain ⟨v0, v1⟩ := DP8.out.nv
  go_wp2_with fail
  refine (lawOneF (kd := 17) (lo := 0) (hi := -1) Hg_p8.out (by omega) (by decide) (by decide) (by decide) smallE).mono ?_
  rintro e w9p ⟨AF, nF, cF, rfl, fF, lF, h9⟩
  have Ha_p9 := Lib.hid (Ha_p8.out.below h9)
  have Hb_p9 := Lib.hid (Hb_p8.out.below h9)
  have HU_p9 := Lib.hid (HU_p8.out.below h9)
  have HS_p9 := Lib.hid (HS_p8.out.below h9)
  have HM_p9 := Lib.hid (HM_p8.out.below h9)
  have HO_p9 := Lib.hid (HO_p8.out.below h9)
  have Ht_p9 := Lib.hid (Ht_p8.out.below h9)
  have bF : nF ≤ 204 := by omega
  have HF_p9 := Lib.hid (show FL _ _ _ _ true _ from fF)
  have DP9 := Lib.hid (DP8.out.below h9)
  have BP9 := Lib.hid (BP8.out.trans (h9.mono BP8.out.size))
  clear h9 fF lF x0 x1 s0 s1 v0 v1 DP8 BP8 Ha_p8 Hb_p8 HU_p8 HS_p8 HM_p8 HO_p8 Hg_p8 Ht_p8
  have x0 := DP9.out.x0
  have x1 := DP9.out.x1
  have s0 := DP9.out.s0
  have s1 := DP9.out.s1
  obtain ⟨v0, v1⟩ := DP9.out.nv
  go_wp2_with fail
  refine wp_region_held_drew (S := fun U => (((U.cell? ⟨gT, 0, none⟩ = some (.slice NA nn nc) ∧ U.cell? ⟨gT, 1, none⟩ = some (.slice EA ne ec)) ∧ U.cell? ⟨gT + 1, 0, none⟩ = some (.int .i64 0) ∧ U.cell? ⟨gT + 1, 1, none⟩ = some (.int .i64 (-1))) ∧ U.cell? ⟨0, 0, none⟩ = some (.int .i64 0) ∧ U.cell? ⟨0, 1, none⟩ = some (.int .i64 0)) ∧ Below w9p.heap.size w9p U) (by kernel_rfl) ⟨⟨⟨⟨x0, x1⟩, s0, s1⟩, v0, v1⟩, (Below.refl _ _).drew⟩ (fun hHeld => ?_)
  clear x0 x1 s0 s1 v0 v1
  have Ha_r6 := Lib.hid (Ha_p9.out.below hHeld.2)
  have Hb_r6 := Lib.hid (Hb_p9.out.below hHeld.2)
  have HU_r6 := Lib.hid (HU_p9.out.below hHeld.2)
  have HS_r6 := Lib.hid (HS_p9.out.below hHeld.2)
  have HM_r6 := Lib.hid (HM_p9.out.below hHeld.2)
  have HO_r6 := Lib.hid (HO_p9.out.below hHeld.2)
  have Ht_r6 := Lib.hid (Ht_p9.out.below hHeld.2)
  have HF_r6 := Lib.hid (HF_p9.out.below hHeld.2)
  clear Ha_p9 Hb_p9 HU_p9 HS_p9 HM_p9 HO_p9 Ht_p9 HF_p9
  refine tkOp 0 hHeld ?_
  refine tkOp 1 hHeld ?_
  refine tkOp 2 hHeld ?_
  refine tkOp 3 hHeld ?_
  refine tkOp 4 hHeld ?_
  refine tkOp 5 hHeld ?_
  refine tkOp 6 hHeld ?_
  refine tkOp 7 hHeld ?_
  refine tkCall 8 (fun Kt hKt => ?_)
  go_simp
  (go_at_call 9; refine (lawOneF (kd := 9) (lo := 0) (hi := -1) HU_r6.out (by omega) (by decide) (by decide) (by decide) smallE).mono ?_; rintro e w10 ⟨Au1, nu1, cu1, rfl, fu1, lu1, h10⟩; have hB10 := hHeld.2.trans (h10.mono hHeld.2.size); have Ha_10 := Lib.hid (Ha_r6.out.below h10); have Hb_10 := Lib.hid (Hb_r6.out.below h10); have HU_10 := Lib.hid (HU_r6.out.below h10); have HS_10 := Lib.hid (HS_r6.out.below h10); have HM_10 := Lib.hid (HM_r6.out.below h10); have HO_10 := Lib.hid (HO_r6.out.below h10); have Ht_10 := Lib.hid (Ht_r6.out.below h10); have HF_10 := Lib.hid (HF_r6.out.below h10); have bu1 : nu1 ≤ 202 := (by omega); have Hu1_10 := Lib.hid fu1; clear Ha_r6 Hb_r6 HU_r6 HS_r6 HM_r6 HO_r6 Ht_r6 HF_r6 fu1 lu1)
  refine hKt.out _ _ ?_ (fun hT => ?_)
  · (exact ⟨keep6 h10 hHeld.1, hB10⟩)
  clear hKt Kt hHeld
  have hHeld := hT
  clear hT
  try simp only [Act.put, tkA, tkB, tkC]
  clear h10 hB10
  refine tkCall 9 (fun Kt hKt => ?_)
  go_simp
  (go_at_call 11; refine (lawTwoF (kd := 5) (lo := 0) (hi := 0) Ha_10.out Hu1_10.out (by omega) (by omega) (by decide) (by decide) (by decide) small0).mono ?_; rintro e w11 ⟨Au2, nu2, cu2, rfl, fu2, lu2, h11⟩; have hB11 := hHeld.2.trans (h11.mono hHeld.2.size); have Ha_11 := Lib.hid (Ha_10.out.below h11); have Hb_11 := Lib.hid (Hb_10.out.below h11); have HU_11 := Lib.hid (HU_10.out.below h11); have HS_11 := Lib.hid (HS_10.out.below h11); have HM_11 := Lib.hid (HM_10.out.below h11); have HO_11 := Lib.hid (HO_10.out.below h11); have Ht_11 := Lib.hid (Ht_10.out.below h11); have HF_11 := Lib.hid (HF_10.out.below h11); have bu2 : nu2 ≤ 303 := (by omega); have Hu2_11 := Lib.hid fu2; clear Ha_10 Hb_10 HU_10 HS_10 HM_10 HO_10 Ht_10 HF_10 Hu1_10 fu2 lu2)
  refine hKt.out _ _ ?_ (fun hT => ?_)
  · (exact ⟨keep6 h11 hHeld.1, hB11⟩)
  clear hKt Kt hHeld
  have hHeld := hT
  clear hT
  try simp only [Act.put, tkA, tkB, tkC]
  clear h11 hB11
  refine tkCall 10 (fun Kt hKt => ?_)
  go_simp
  (go_at_call 11; refine (lawTwoF (kd := 6) (lo := 0) (hi := 0) Hb_11.out Hu2_11.out (by omega) (by omega) (by decide) (by decide) (by decide) small0).mono ?_; rintro e w12 ⟨Au3, nu3, cu3, rfl, fu3, lu3, h12⟩; have hB12 := hHeld.2.trans (h12.mono hHeld.2.size); have Ha_12 := Lib.hid (Ha_11.out.below h12); have Hb_12 := Lib.hid (Hb_11.out.below h12); have HU_12 := Lib.hid (HU_11.out.below h12); have HS_12 := Lib.hid (HS_11.out.below h12); have HM_12 := Lib.hid (HM_11.out.below h12); have HO_12 := Lib.hid (HO_11.out.below h12); have Ht_12 := Lib.hid (Ht_11.out.below h12); have HF_12 := Lib.hid (HF_11.out.below h12); have bu3 : nu3 ≤ 404 := (by omega); have Hu3_12 := Lib.hid fu3; clear Ha_11 Hb_11 HU_11 HS_11 HM_11 HO_11 Ht_11 HF_11 Hu2_11 fu3 lu3)
  refine hKt.out _ _ ?_ (fun hT => ?_)
  · (exact ⟨keep6 h12 hHeld.1, hB12⟩)
  clear hKt Kt hHeld
  have hHeld := hT
  clear hT
  try simp only [Act.put, tkA, tkB, tkC]
  clear h12 hB12
  refine tkCall 11 (fun Kt hKt => ?_)
  go_simp
  (go_at_call 8; refine (lawAlikeF NA nn nc EA ne ec t (DP9.out.below hHeld.2).tr HMT.out (by omega) HU_12.out Hu3_12.out (by omega) (by omega) (until_on _ _ _)).mono ?_; rintro e w13 ⟨rfl, h13⟩; have hB13 := hHeld.2.trans (h13.mono hHeld.2.size); have Ha_13 := Lib.hid (Ha_12.out.below h13); have Hb_13 := Lib.hid (Hb_12.out.below h13); have HS_13 := Lib.hid (HS_12.out.below h13); have HM_13 := Lib.hid (HM_12.out.below h13); have HO_13 := Lib.hid (HO_12.out.below h13); have Ht_13 := Lib.hid (Ht_12.out.below h13); have HF_13 := Lib.hid (HF_12.out.below h13); clear Ha_12 Hb_12 HU_12 HS_12 HM_12 HO_12 Ht_12 HF_12 Hu3_12)
  refine hKt.out _ _ ?_ (fun hT => ?_)
  · (exact ⟨keep6 h13 hHeld.1, hB13⟩)
  clear hKt Kt hHeld
  have hHeld := hT
  clear hT
  try simp only [Act.put, tkA, tkB, tkC]
  clear h13 hB13
  refine tkOp 12 hHeld ?_
  refine tkOp 13 hHeld ?_
  refine tkOp 14 hHeld ?_
  refine tkOp 15 hHeld ?_
  refine tkOp 16 hHeld ?_
  refine tkOp 17 hHeld ?_
  refine tkOp 18 hHeld ?_
  refine tkOp 19 hHeld ?_
  refine tkOp 20 hHeld ?_
  refine tkCall 21 (fun Kt hKt => ?_)
  go_simp
  (go_at_call 9; refine (lawOneF (kd := 8) (lo := 0) (hi := -1) HS_13.out (by omega) (by decide) (by decide) (by decide) smallE).mono ?_; rintro e w14 ⟨As1, ns1, cs1, rfl, fs1, ls1, h14⟩; have hB14 := hHeld.2.trans (h14.mono hHeld.2.size); have Ha_14 := Lib.hid (Ha_13.out.below h14); have Hb_14 := Lib.hid (Hb_13.out.below h14); have HS_14 := Lib.hid (HS_13.out.below h14); have HM_14 := Lib.hid (HM_13.out.below h14); have HO_14 := Lib.hid (HO_13.out.below h14); have Ht_14 := Lib.hid (Ht_13.out.below h14); have HF_14 := Lib.hid (HF_13.out.below h14); have bs1 : ns1 ≤ 202 := (by omega); have Hs1_14 := Lib.hid fs1; clear Ha_13 Hb_13 HS_13 HM_13 HO_13 Ht_13 HF_13 fs1 ls1)
  refine hKt.out _ _ ?_ (fun hT => ?_)
  · (exact ⟨keep6 h14 hHeld.1, hB14⟩)
  clear hKt Kt hHeld
  have hHeld := hT
  clear hT
  try simp only [Act.put, tkA, tkB, tkC]
  clear h14 hB14
  refine tkCall 22 (fun Kt hKt => ?_)
  go_simp
  (go_at_call 11; refine (lawTwoF (kd := 5) (lo := 0) (hi := 0) Ha_14.out Hs1_14.out (by omega) (by omega) (by decide) (by decide) (by decide) small0).mono ?_; rintro e w15 ⟨As2, ns2, cs2, rfl, fs2, ls2, h15⟩; have hB15 := hHeld.2.trans (h15.mono hHeld.2.size); have Ha_15 := Lib.hid (Ha_14.out.below h15); have Hb_15 := Lib.hid (Hb_14.out.below h15); have HS_15 := Lib.hid (HS_14.out.below h15); have HM_15 := Lib.hid (HM_14.out.below h15); have HO_15 := Lib.hid (HO_14.out.below h15); have Ht_15 := Lib.hid (Ht_14.out.below h15); have HF_15 := Lib.hid (HF_14.out.below h15); have bs2 : ns2 ≤ 303 := (by omega); have Hs2_15 := Lib.hid fs2; clear Ha_14 Hb_14 HS_14 HM_14 HO_14 Ht_14 HF_14 Hs1_14 fs2 ls2)
  refine hKt.out _ _ ?_ (fun hT => ?_)
  · (exact ⟨keep6 h15 hHeld.1, hB15⟩)
  clear hKt Kt hHeld
  have hHeld := hT
  clear hT
  try simp only [Act.put, tkA, tkB, tkC]
  clear h15 hB15
  refine tkCall 23 (fun Kt hKt => ?_)
  go_simp
  (go_at_call 11; refine (lawTwoF (kd := 6) (lo := 0) (hi := 0) Hb_15.out Hs2_15.out (by omega) (by omega) (by decide) (by decide) (by decide) small0).mono ?_; rintro e w16 ⟨As3, ns3, cs3, rfl, fs3, ls3, h16⟩; have hB16 := hHeld.2.trans (h16.mono hHeld.2.size); have Ha_16 := Lib.hid (Ha_15.out.below h16); have Hb_16 := Lib.hid (Hb_15.out.below h16); have HS_16 := Lib.hid (HS_15.out.below h16); have HM_16 := Lib.hid (HM_15.out.below h16); have HO_16 := Lib.hid (HO_15.out.below h16); have Ht_16 := Lib.hid (Ht_15.out.below h16); have HF_16 := Lib.hid (HF_15.out.below h16); have bs3 : ns3 ≤ 404 := (by omega); have Hs3_16 := Lib.hid fs3; clear Ha_15 Hb_15 HS_15 HM_15 HO_15 Ht_15 HF_15 Hs2_15 fs3 ls3)
  refine hKt.out _ _ ?_ (fun hT => ?_)
  · (exact ⟨keep6 h16 hHeld.1, hB16⟩)
  clear hKt Kt hHeld
  have hHeld := hT
  clear hT
  try simp only [Act.put, tkA, tkB, tkC]
  clear h16 hB16
  refine tkCall 24 (fun Kt hKt => ?_)
  go_simp
  (go_at_call 8; refine (lawAlikeF NA nn nc EA ne ec t (DP9.out.below hHeld.2).tr HMT.out (by omega) HS_16.out Hs3_16.out (by omega) (by omega) (since_on _ _ _)).mono ?_; rintro e w17 ⟨rfl, h17⟩; have hB17 := hHeld.2.trans (h17.mono hHeld.2.size); have Ha_17 := Lib.hid (Ha_16.out.below h17); have Hb_17 := Lib.hid (Hb_16.out.below h17); have HM_17 := Lib.hid (HM_16.out.below h17); have HO_17 := Lib.hid (HO_16.out.below h17); have Ht_17 := Lib.hid (Ht_16.out.below h17); have HF_17 := Lib.hid (HF_16.out.below h17); clear Ha_16 Hb_16 HS_16 HM_16 HO_16 Ht_16 HF_16 Hs3_16)
  refine hKt.out _ _ ?_ (fun hT => ?_)
  · (exact ⟨keep6 h17 hHeld.1, hB17⟩)
  clear hKt Kt hHeld
  have hHeld := hT
  clear hT
  try simp only [Act.put, tkA, tkB, tkC]
  clear h17 hB17
  refine tkOp 25 hHeld ?_
  refine tkOp 26 hHeld ?_
  refine tkOp 27 hHeld ?_
  refine tkOp 28 hHeld ?_
  refine tkOp 29 hHeld ?_
  refine tkOp 30 hHeld ?_
  refine tkOp 31 hHeld ?_
  refine tkOp 32 hHeld ?_
  refine tkCall 33 (fun Kt hKt => ?_)
  go_simp
  (go_at_call 9; refine (lawOneF (kd := 9) (lo := 0) (hi := -1) HM_17.out (by omega) (by decide) (by decide) (by decide) smallE).mono ?_; rintro e w18 ⟨Am1, nm1, cm1, rfl, fm1, lm1, h18⟩; have hB18 := hHeld.2.trans (h18.mono hHeld.2.size); have Ha_18 := Lib.hid (Ha_17.out.below h18); have Hb_18 := Lib.hid (Hb_17.out.below h18); have HM_18 := Lib.hid (HM_17.out.below h18); have HO_18 := Lib.hid (HO_17.out.below h18); have Ht_18 := Lib.hid (Ht_17.out.below h18); have HF_18 := Lib.hid (HF_17.out.below h18); have bm1 : nm1 ≤ 102 := (by omega); have Hm1_18 := Lib.hid fm1; clear Ha_17 Hb_17 HM_17 HO_17 Ht_17 HF_17 fm1 lm1)
  refine hKt.out _ _ ?_ (fun hT => ?_)
  · (exact ⟨keep6 h18 hHeld.1, hB18⟩)
  clear hKt Kt hHeld
  have hHeld := hT
  clear hT
  try simp only [Act.put, tkA, tkB, tkC]
  clear h18 hB18
  refine tkCall 34 (fun Kt hKt => ?_)
  go_simp
  (go_at_call 11; refine (lawTwoF (kd := 6) (lo := 0) (hi := 0) Ha_18.out Hm1_18.out (by omega) (by omega) (by decide) (by decide) (by decide) small0).mono ?_; rintro e w19 ⟨Am2, nm2, cm2, rfl, fm2, lm2, h19⟩; have hB19 := hHeld.2.trans (h19.mono hHeld.2.size); have Ha_19 := Lib.hid (Ha_18.out.below h19); have Hb_19 := Lib.hid (Hb_18.out.below h19); have HM_19 := Lib.hid (HM_18.out.below h19); have HO_19 := Lib.hid (HO_18.out.below h19); have Ht_19 := Lib.hid (Ht_18.out.below h19); have HF_19 := Lib.hid (HF_18.out.below h19); have bm2 : nm2 ≤ 203 := (by omega); have Hm2_19 := Lib.hid fm2; clear Ha_18 Hb_18 HM_18 HO_18 Ht_18 HF_18 Hm1_18 fm2 lm2)
  refine hKt.out _ _ ?_ (fun hT => ?_)
  · (exact ⟨keep6 h19 hHeld.1, hB19⟩)
  clear hKt Kt hHeld
  have hHeld := hT
  clear hT
  try simp only [Act.put, tkA, tkB, tkC]
  clear h19 hB19
  refine tkCall 35 (fun Kt hKt => ?_)
  go_simp
  (go_at_call 8; refine (lawAlikeF NA nn nc EA ne ec t (DP9.out.below hHeld.2).tr HMT.out (by omega) HM_19.out Hm2_19.out (by omega) (by omega) (some_on _ _)).mono ?_; rintro e w20 ⟨rfl, h20⟩; have hB20 := hHeld.2.trans (h20.mono hHeld.2.size); have Ha_20 := Lib.hid (Ha_19.out.below h20); have Hb_20 := Lib.hid (Hb_19.out.below h20); have HO_20 := Lib.hid (HO_19.out.below h20); have Ht_20 := Lib.hid (Ht_19.out.below h20); have HF_20 := Lib.hid (HF_19.out.below h20); clear Ha_19 Hb_19 HM_19 HO_19 Ht_19 HF_19 Hm2_19)
  refine hKt.out _ _ ?_ (fun hT => ?_)
  · (exact ⟨keep6 h20 hHeld.1, hB20⟩)
  clear hKt Kt hHeld
  have hHeld := hT
  clear hT
  try simp only [Act.put, tkA, tkB, tkC]
  clear h20 hB20
  refine tkOp 36 hHeld ?_
  refine tkOp 37 hHeld ?_
  refine tkOp 38 hHeld ?_
  refine tkOp 39 hHeld ?_
  refine tkOp 40 hHeld ?_
  refine tkOp 41 hHeld ?_
  refine tkOp 42 hHeld ?_
  refine tkOp 43 hHeld ?_
  refine tkCall 44 (fun Kt hKt => ?_)
  go_simp
  (go_at_call 9; refine (lawOneF (kd := 8) (lo := 0) (hi := -1) HO_20.out (by omega) (by decide) (by decide) (by decide) smallE).mono ?_; rintro e w21 ⟨Ao1, no1, co1, rfl, fo1, lo1, h21⟩; have hB21 := hHeld.2.trans (h21.mono hHeld.2.size); have Ha_21 := Lib.hid (Ha_20.out.below h21); have Hb_21 := Lib.hid (Hb_20.out.below h21); have HO_21 := Lib.hid (HO_20.out.below h21); have Ht_21 := Lib.hid (Ht_20.out.below h21); have HF_21 := Lib.hid (HF_20.out.below h21); have bo1 : no1 ≤ 102 := (by omega); have Ho1_21 := Lib.hid fo1; clear Ha_20 Hb_20 HO_20 Ht_20 HF_20 fo1 lo1)
  refine hKt.out _ _ ?_ (fun hT => ?_)
  · (exact ⟨keep6 h21 hHeld.1, hB21⟩)
  clear hKt Kt hHeld
  have hHeld := hT
  clear hT
  try simp only [Act.put, tkA, tkB, tkC]
  clear h21 hB21
  refine tkCall 45 (fun Kt hKt => ?_)
  go_simp
  (go_at_call 11; refine (lawTwoF (kd := 6) (lo := 0) (hi := 0) Ha_21.out Ho1_21.out (by omega) (by omega) (by decide) (by decide) (by decide) small0).mono ?_; rintro e w22 ⟨Ao2, no2, co2, rfl, fo2, lo2, h22⟩; have hB22 := hHeld.2.trans (h22.mono hHeld.2.size); have Hb_22 := Lib.hid (Hb_21.out.below h22); have HO_22 := Lib.hid (HO_21.out.below h22); have Ht_22 := Lib.hid (Ht_21.out.below h22); have HF_22 := Lib.hid (HF_21.out.below h22); have bo2 : no2 ≤ 203 := (by omega); have Ho2_22 := Lib.hid fo2; clear Ha_21 Hb_21 HO_21 Ht_21 HF_21 Ho1_21 fo2 lo2)
  refine hKt.out _ _ ?_ (fun hT => ?_)
  · (exact ⟨keep6 h22 hHeld.1, hB22⟩)
  clear hKt Kt hHeld
  have hHeld := hT
  clear hT
  try simp only [Act.put, tkA, tkB, tkC]
  clear h22 hB22
  refine tkCall 46 (fun Kt hKt => ?_)
  go_simp
  (go_at_call 8; refine (lawAlikeF NA nn nc EA ne ec t (DP9.out.below hHeld.2).tr HMT.out (by omega) HO_22.out Ho2_22.out (by omega) (by omega) (once_on _ _)).mono ?_; rintro e w23 ⟨rfl, h23⟩; have hB23 := hHeld.2.trans (h23.mono hHeld.2.size); have Hb_23 := Lib.hid (Hb_22.out.below h23); have Ht_23 := Lib.hid (Ht_22.out.below h23); have HF_23 := Lib.hid (HF_22.out.below h23); clear Hb_22 HO_22 Ht_22 HF_22 Ho2_22)
  refine hKt.out _ _ ?_ (fun hT => ?_)
  · (exact ⟨keep6 h23 hHeld.1, hB23⟩)
  clear hKt Kt hHeld
  have hHeld := hT
  clear hT
  try simp only [Act.put, tkA, tkB, tkC]
  clear h23 hB23
  refine tkOp 47 hHeld ?_
  refine tkOp 48 hHeld ?_
  refine tkOp 49 hHeld ?_
  refine tkOp 50 hHeld ?_
  refine tkOp 51 hHeld ?_
  refine tkOp 52 hHeld ?_
  refine tkOp 53 hHeld ?_
  refine tkOp 54 hHeld ?_
  refine tkCall 55 (fun Kt hKt => ?_)
  go_simp
  (go_at_call 9; refine (lawOneF (kd := 17) (lo := 0) (hi := -1) Ht_23.out (by omega) (by decide) (by decide) (by decide) smallE).mono ?_; rintro e w24 ⟨Af1, nf1, cf1, rfl, ff1, lf1, h24⟩; have hB24 := hHeld.2.trans (h24.mono hHeld.2.size); have Hb_24 := Lib.hid (Hb_23.out.below h24); have HF_24 := Lib.hid (HF_23.out.below h24); have bf1 : nf1 ≤ 305 := (by omega); have Hf1_24 := Lib.hid ff1; clear Hb_23 Ht_23 HF_23 ff1 lf1)
  refine hKt.out _ _ ?_ (fun hT => ?_)
  · (exact ⟨keep6 h24 hHeld.1, hB24⟩)
  clear hKt Kt hHeld
  have hHeld := hT
  clear hT
  try simp only [Act.put, tkA, tkB, tkC]
  clear h24 hB24
  refine tkCall 56 (fun Kt hKt => ?_)
  go_simp
  (go_at_call 11; refine (lawTwoF (kd := 6) (lo := 0) (hi := 0) Hb_24.out Hf1_24.out (by omega) (by omega) (by decide) (by decide) (by decide) small0).mono ?_; rintro e w25 ⟨Af2, nf2, cf2, rfl, ff2, lf2, h25⟩; have hB25 := hHeld.2.trans (h25.mono hHeld.2.size); have HF_25 := Lib.hid (HF_24.out.below h25); have bf2 : nf2 ≤ 406 := (by omega); have Hf2_25 := Lib.hid ff2; clear Hb_24 HF_24 Hf1_24 ff2 lf2)
  refine hKt.out _ _ ?_ (fun hT => ?_)
  · (exact ⟨keep6 h25 hHeld.1, hB25⟩)
  clear hKt Kt hHeld
  have hHeld := hT
  clear hT
  try simp only [Act.put, tkA, tkB, tkC]
  clear h25 hB25
  refine tkCall 57 (fun Kt hKt => ?_)
  go_simp
  (go_at_call 8; refine (lawAlikeF NA nn nc EA ne ec t (DP9.out.below hHeld.2).tr HMT.out (by omega) HF_25.out Hf2_25.out (by omega) (by omega) (fore_on _ _ _ _ _ _ _ _ _ _ _)).mono ?_; rintro e w26 ⟨rfl, h26⟩; have hB26 := hHeld.2.trans (h26.mono hHeld.2.size); clear HF_25 Hf2_25)
  refine hKt.out _ _ ?_ (fun hT => ?_)
  · (exact ⟨keep6 h26 hHeld.1, hB26⟩)
  clear hKt Kt hHeld
  have hHeld := hT
  clear hT
  try simp only [Act.put, tkA, tkB, tkC]
  clear h26 hB26
  refine tkOp 58 hHeld ?_
  refine tkOp 59 hHeld ?_
  refine tkCall 60 (fun Kt hKt => ?_)
  go_simp
  (go_at_call 12; refine (HAW.out _).mono ?_; rintro e w27 ⟨rfl, h27⟩; have hB27 := hHeld.2.trans (h27.mono hHeld.2.size))
  refine hKt.out _ _ ?_ (fun hT => ?_)
  · (exact ⟨keep6 h27 hHeld.1, hB27⟩)
  clear hKt Kt hHeld
  have hHeld := hT
  clear hT
  try simp only [Act.put, tkA, tkB, tkC]
  clear h27 hB27
  refine tkOp 61 hHeld ?_
  refine tkOp 62 hHeld ?_
  refine wpAnyH_done (by kernel_rfl) ?_ _
  have DR6 := Lib.hid (DP9.out.below hHeld.2)
  have BR6 := Lib.hid (BP9.out.trans (hHeld.2.mono BP9.out.size))
  clear hHeld DP9 BP9
  go_wp2_with fail
  go_ret
  exact ⟨rfl, BR6.out⟩
end Go.Proofs.YtdbgaccnejffpaaGreatDoor.Sat
namespace Go.Proofs.YtdbgaccnejffpaaGreatDoor.SatNone
open Go.RowKit Go.Proofs.YtdbgaccnejffpaaGreatDoor.Mem

theorem gNone : Tryz.prog.globalNamed "watchglass/watchglasslaw15.none" = some 0 := by kernel_rfl
theorem tNone : (Tryz.prog.globals[0]?).map (·.type) = some 33 := by kernel_rfl
theorem structSpan : Tryz.prog.underlying 33 = some (.struct (Tryz.prog.fieldsOf 33)) := by kernel_rfl
theorem fieldsSpan : (Tryz.prog.fieldsOf 33).toList.map (fun f => (f.type, f.offset)) = [(3, 0), (3, 1)] := by kernel_rfl
set_option maxRecDepth 100000 in
theorem tab_of {W : World} (h : laidMetH Tryz.prog [("watchglass/watchglasslaw15.none", Rows.laid_watchglass_watchglasslaw15_none)] W) : Sat.NoneV W := by
  rw [MakeChecks.laidMetH_plain _ _ _ (by kernel_rfl)] at h
  obtain ⟨ps, ⟨g0, t0, cs0, f0, p0, q0, hg0, ht0, hv0, hd0, _, _⟩, _, _⟩ := h
  obtain rfl := Option.some.inj (gNone.symm.trans hg0)
  obtain rfl := Option.some.inj (tNone.symm.trans ht0)
  obtain ⟨ys, m, -, hx, -, hlen, hf⟩ := DataW.trod_struct structSpan hd0
  have hsz : (Tryz.prog.fieldsOf 33).size = 2 := by
    have := congrArg List.length fieldsSpan
    simpa using this
  obtain ⟨u0, w0, t0, o0⟩ := field_at fieldsSpan (i := 0) rfl
  obtain ⟨u1, w1, t1, o1⟩ := field_at fieldsSpan (i := 1) rfl
  obtain ⟨y0, e0⟩ : ∃ y, ys[0]? = some y := ⟨_, List.getElem?_eq_getElem (by omega)⟩
  obtain ⟨y1, e1⟩ : ∃ y, ys[1]? = some y := ⟨_, List.getElem?_eq_getElem (by omega)⟩
  have k0 := hf 0 u0 w0
  have k1 := hf 1 u1 w1
  rw [t0, o0, e0, cellsInt] at k0
  rw [t1, o1, e1, cellsInt] at k1
  obtain ⟨z0, c0, d0, -⟩ := DataW.trod_int Tryz.underlying3 k0
  obtain ⟨z1, c1, d1, -⟩ := DataW.trod_int Tryz.underlying3 k1
  have hl : [(DataW.lit (.int .i64 0) : DataW Unit), .lit (.int .i64 0)] = ys.map (·.1) := DataW.agg.inj (show DataW.agg [(DataW.lit (.int .i64 0) : DataW Unit), .lit (.int .i64 0)] = .agg (ys.map (·.1)) from congrArg Prod.fst hx)
  have h0 : z0 = 0 := by
    have := congrArg (·[0]?) hl
    simp [List.getElem?_map, e0, d0] at this
    exact this.symm
  have h1 : z1 = 0 := by
    have := congrArg (·[1]?) hl
    simp [List.getElem?_map, e1, d1] at this
    exact this.symm
  have q0 := one_of c0
  have q1 := one_of c1
  rw [h0] at q0
  rw [h1] at q1
  refine ⟨(World.var?_cell hg0 hv0 0).trans ?_, (World.var?_cell hg0 hv0 1).trans ?_⟩
  · rw [← Array.getElem?_toList]; exact q0
  · rw [← Array.getElem?_toList]; exact q1
noncomputable def laidWorld (os : Os) : World := World.holding Tryz.prog os ⟨#[], #[], []⟩
end Go.Proofs.YtdbgaccnejffpaaGreatDoor.SatNone
