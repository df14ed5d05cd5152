/-
  The walk of the reference's Record (stage 12), and of the law's Ahead. By an AI agent.
-/
import Derived.Test.YtbbjoffknoaoiaaGScanAny9
import Derived.Test.YtbbjoffknoaoiaaGScanAny14
import Derived.Test.YtbbjoffknoaoiaaGScanAny15
import Derived.Test.YtbbjoffknoaoiaaGScanAny19
import Derived.Lib.MinMax
namespace Go.Proofs.Ytbbjoffknoaoiaa.Scan
open Go.RowKit Go.Proofs.Ytbbjoffknoaoiaa.Ints Go.Proofs.Ytbbjoffknoaoiaa.Mem Go.Proofs.Ytbbjoffknoaoiaa.SumMath Go.Proofs.Ytbbjoffknoaoiaa.SumWalks Go.Proofs.Ytbbjoffknoaoiaa.Trace Go.Proofs.Ytbbjoffknoaoiaa.Record Go.Proofs.Ytbbjoffknoaoiaa.Log Go.Proofs.Ytbbjoffknoaoiaa.Src

/-- The bytes from a place on that can be read. -/
def restB (b : List Int) (f : Nat) (p : Int) : List Int := (b.take f).drop (min p.toNat f)
/-- What is wrong with the record at a place. -/
def scanE (b : List Int) (f : Nat) (p props : Int) : Nat :=
  if p < 0 then 1 else if (b.length : Int) ≤ p then 13
  else if f < b.length ∧ (errR (restB b f p) (propsR props) = 13 ∨ errR (restB b f p) (propsR props) = 7) then 10 else errR (restB b f p) (propsR props)
def scanV (b : List Int) (f : Nat) (p props : Int) : Ev := if scanE b f p props = 0 then getE (restB b f p) props else noEv
def scanN (b : List Int) (f : Nat) (p props : Int) : Nat := if scanE b f p props = 0 then p.toNat + getN (restB b f p) props else 0
/-- What a call that hands back a record leaves. -/
def GotScan (w : World) (b : List Int) (f : Nat) (p props : Int) (e : Ending) (w' : World) : Prop :=
  ∃ K c, e = .returned (.tuple #[.agg #[.int .u64 (scanV b f p props).time, .slice K (scanV b f p props).ids.length c], .int .i64 (scanN b f p props : Nat), .int .i64 (scanE b f p props : Nat)]) ∧
    EvOk w' (scanV b f p props) K c ∧ Below w.heap.size w w'
theorem scan_none {w w' : World} {b : List Int} {f n : Nat} {p props : Int} (h : scanE b f p props = n) (hn : n ≠ 0) (hb : Below w.heap.size w w') :
    GotScan w b f p props (.returned (.tuple #[.agg #[.int .u64 0, .slice none 0 0], .int .i64 0, .int .i64 (n : Nat)])) w' := by
  have e1 : scanV b f p props = noEv := by unfold scanV; rw [h, if_neg hn]
  have e2 : scanN b f p props = 0 := by unfold scanN; rw [h, if_neg hn]
  unfold GotScan
  rw [e1, e2, h]
  exact ⟨none, 0, rfl, no_ok _, hb⟩

set_option maxHeartbeats 4000000 in
set_option maxRecDepth 100000 in
theorem lawAhead (A : Option Addr) (n c : Nat) (b : List Int) (fault : Int) (w : World) (hnc : n ≤ c) (_h : Rd .u8 w A n b) :
    Calls Try.prog 21 #[.slice A n c, .int .i64 fault] w fun e w' => e = .returned (.tuple #[.slice A (faultP n fault) c, .int .i64 (if faultP n fault < n then 1 else 0)]) ∧ w' = w := by
  by_cases h1 : fault < 0
  · have hf : faultP n fault = n := by unfold faultP; rw [if_pos (Or.inl h1)]
    rw [hf, if_neg (Nat.lt_irrefl _)]
    clear hf
    go_enter Try.func21, Try.ntmps21
    go_wp2
    refine bodyPost_ret (v := .tuple #[.slice A n c, .int .i64 0]) (by simp [results, Try.results21, go_sem]) rfl ?_
    exact ⟨rfl, rfl⟩
  obtain ⟨f, rfl⟩ : ∃ f : Nat, fault = (f : Int) := Int.eq_ofNat_of_zero_le (by omega)
  by_cases h2 : f < n
  · have hf : faultP n (f : Int) = f := by unfold faultP; rw [if_neg (by omega)]; omega
    rw [hf, if_pos h2]
    have h2' : (f : Int) < (n : Int) := by omega
    have hsl := slice_upto (P := Try.prog) 22 (by kernel_rfl) 1 (by kernel_rfl) A n c f (by omega)
    clear hf
    go_enter Try.func21, Try.ntmps21
    go_wp2
    refine bodyPost_ret (v := .tuple #[.slice A f c, .int .i64 1]) (by simp [results, Try.results21, go_sem]) rfl ?_
    exact ⟨rfl, rfl⟩
  · have hf : faultP n (f : Int) = n := by unfold faultP; split <;> omega
    rw [hf, if_neg (Nat.lt_irrefl _)]
    have h2' : ¬ ((f : Int) < (n : Int)) := by omega
    clear hf
    go_enter Try.func21, Try.ntmps21
    go_wp2
    refine bodyPost_ret (v := .tuple #[.slice A n c, .int .i64 0]) (by simp [results, Try.results21, go_sem]) rfl ?_
    exact ⟨rfl, rfl⟩

theorem evok_set {W : World} {g : Nat} {x : Ev} {K : Option Addr} {c : Nat} (h : EvOk W x K c) (hne : ∀ a, K = some a → a.block ≠ g) (u0 u1 : Value) : EvOk ((W.setCell ⟨g, 0, none⟩ u0).setCell ⟨g, 1, none⟩ u1) x K c :=
  ⟨h.1, h.2.1.keep fun p u hp hu => by
    obtain ⟨a, ha, hb⟩ := Option.map_eq_some_iff.1 hp
    rw [Record.set2_cell W g u0 u1 p (by rw [← hb]; exact hne a ha)]
    exact hu, h.2.2⟩
/-- Bytes up to a place, from another one on. -/
theorem rd_cut {w : World} {A : Option Addr} {n c f k : Nat} {zs : List Int} (h : Rd .u8 w A n zs) (hnc : n ≤ c) (hf : f ≤ n) (hk : k ≤ f) : Rd .u8 w (fromAddr A c k 1) (f - k) ((zs.take f).drop k) := by
  rcases Nat.eq_zero_or_pos f with h0 | h0
  · subst h0
    have e : (zs.take 0).drop k = [] := by simp
    rw [e, Nat.zero_sub]
    exact Rd.nil _ _ _
  · exact (rd_fromB (h.take hf) (Nat.le_trans hf hnc) hk h0).1

set_option maxHeartbeats 8000000 in
set_option maxRecDepth 100000 in
theorem refRecord (A : Option Addr) (n c : Nat) (b : List Int) (fault p props : Int) (w : World) (hnc : n ≤ c) (hc : c ≤ maxLen) (h : Rd .u8 w A n b) (hp : small64 p) :
    Calls Try.prog 46 #[.slice A n c, .int .i64 fault, .int .i64 p, .int .i64 props] w (GotScan w b (faultP n fault) p props) := by
  have q63 : maxLen = 9223372036854775807 := rfl
  obtain ⟨hp1, hp2⟩ := hp
  have hlen := h.len
  have b0 := Blk.new w #[.int .u64 0, .slice none 0 0] 38 [.int .u64 0, .slice none 0 0] rfl
  have hal := (Below.refl _ w).alloc (Nat.le_refl _) (.cells #[.int .u64 0, .slice none 0 0] 38)
  obtain ⟨w0, hw0⟩ : ∃ w0, w.alloc (.cells #[.int .u64 0, .slice none 0 0] 38) = w0 := ⟨_, rfl⟩
  rw [hw0] at b0 hal
  have hfn := fault_le n fault
  obtain ⟨f, hf⟩ : ∃ f, faultP n fault = f := ⟨_, rfl⟩
  rw [hf] at hfn ⊢
  -- the three ways of the fault
  have hways : (0 ≤ fault ∧ fault < (n : Int) ∧ fault = (f : Int) ∧ f < n) ∨ (fault < 0 ∧ f = n) ∨ (¬ fault < 0 ∧ ¬ fault < (n : Int) ∧ f = n) := by
    unfold faultP at hf
    split at hf
    · by_cases e : fault < 0
      · exact Or.inr (Or.inl ⟨e, hf.symm⟩)
      · exact Or.inr (Or.inr ⟨e, by omega, hf.symm⟩)
    · by_cases e : fault < (n : Int)
      · exact Or.inl ⟨by omega, e, by omega, by omega⟩
      · exact Or.inr (Or.inr ⟨by omega, e, by omega⟩)
  have r0 := b0.cell 0 rfl
  have r1 := b0.cell 1 rfl
  have q0 := b0.fz 0 rfl
  have q1 := b0.fz 1 rfl
  have z := b0.set 0 (.int .u64 0) (by simp)
  have z0 := z.cell 0 rfl
  have z1 := (z.set 1 (.slice none 0 0) (by simp)).cell 1 rfl
  have HAL := Lib.hid hal
  have HB0 := Lib.hid b0
  have HD := Lib.hid h
  have HLEN := Lib.hid hlen
  clear z b0 hal hf
  clear hlen h
  rcases hways with ⟨k1, k2, k3, k4⟩ | ⟨k1, k2⟩ | ⟨k1, k2, k3⟩
  · subst k3
    have HC := Lib.hid (show f ≤ n from hfn)
    by_cases h1 : p < 0
    · have HE := Lib.hid (show scanE b f p props = 1 by unfold scanE; rw [if_pos h1])
      go_enter Try.func46, Try.ntmps46
      go_wp2
      refine bodyPost_ret (v := .tuple #[.agg #[.int .u64 0, .slice none 0 0], .int .i64 0, .int .i64 1]) (by simp [results, Try.results46, go_sem, z0, z1]) rfl ?_
      exact scan_none HE.out (by decide) ((HAL.out.setCell (Nat.le_refl _) _).setCell (Nat.le_refl _) _)
    by_cases h2 : (n : Int) ≤ p
    · have HE := Lib.hid (show scanE b f p props = 13 by unfold scanE; rw [if_neg h1, HLEN.out, if_pos h2])
      have h2' : p ≥ (n : Int) := h2
      clear h2
      go_enter Try.func46, Try.ntmps46
      go_wp2
      refine bodyPost_ret (v := .tuple #[.agg #[.int .u64 0, .slice none 0 0], .int .i64 0, .int .i64 13]) (by simp [results, Try.results46, go_sem, z0, z1]) rfl ?_
      exact scan_none HE.out (by decide) ((HAL.out.setCell (Nat.le_refl _) _).setCell (Nat.le_refl _) _)
    obtain ⟨q, rfl⟩ : ∃ q : Nat, p = (q : Int) := Int.eq_ofNat_of_zero_le (by omega)
    have h2' : ¬ (q : Int) ≥ (n : Int) := h2
    obtain ⟨k, hk⟩ : ∃ k, min q f = k := ⟨_, rfl⟩
    have hkF : k ≤ f := by omega
    have hmin : min (q : Int) (f : Int) = (k : Int) := by omega
    have hsl := fun W => slice_midB (P := Try.prog) 22 (by kernel_rfl) 1 (by kernel_rfl) A n c k f hkF (by omega) W
    have hrd := rd_cut HD.out hnc hfn hkF
    obtain ⟨A7, hA7⟩ : ∃ A7, fromAddr A c k 1 = A7 := ⟨_, rfl⟩
    rw [hA7] at hrd
    have hsl2 : ∀ W, (Instr.slice 22 (.slice A n c) (some (.int .i64 (k : Int))) (some (.int .i64 (f : Int))) none).run Try.prog W = .ok (.slice A7 (f - k) (c - k)) W := fun W => by rw [← hA7]; exact hsl W
    clear hsl
    have FG := refGetR A7 (f - k) (c - k) ((b.take f).drop k) props w0 (by omega) (by omega) (hrd.below HAL.out)
    unfold GotGet at FG
    obtain ⟨y, hy⟩ : ∃ y, (b.take f).drop k = y := ⟨_, rfl⟩
    have HY := Lib.hid (show restB b f (q : Int) = y by unfold restB; rw [Int.toNat_natCast, hk, hy])
    rw [hy] at FG
    obtain ⟨x, hx⟩ : ∃ x, getE y props = x := ⟨_, rfl⟩
    obtain ⟨m, hm⟩ : ∃ m, getN y props = m := ⟨_, rfl⟩
    obtain ⟨er, her⟩ : ∃ er, errR y (propsR props) = er := ⟨_, rfl⟩
    have hmn : m ≤ n := by
      by_cases h0 : errR y (propsR props) = 0
      · have h3 := (get_ok h0).2.1
        have h4 := (get_ok h0).2.2.2
        have h5 : y.length ≤ n := by rw [← hy, List.length_drop, List.length_take]; have := HLEN.out; omega
        omega
      · rw [← hm]; unfold getN; rw [if_neg h0]; exact Nat.zero_le _
    have hyl : y.length = f - k := by rw [← hy, List.length_drop, List.length_take]; have := HLEN.out; omega
    have HQM := Lib.hid (show er = 0 → q + m ≤ n from fun h0 => by
      rw [← her] at h0
      have h3 := (get_ok h0).2.1
      have h4 := (get_ok h0).2.2
      omega)
    rw [hx, hm, her] at FG
    have HX := Lib.hid hx
    have HM := Lib.hid hm
    have HER := Lib.hid her
    have HG := Lib.hid FG
    have hnm : (n : Int) ≤ 9223372036854775807 := by omega
    have HSE := Lib.hid (show scanE b f (q : Int) props = if f < n ∧ (er = 13 ∨ er = 7) then 10 else er by unfold scanE; rw [if_neg h1, HLEN.out, if_neg h2, HY.out, her])
    clear FG hx hm her hy hk hA7 hrd h2 hyl
    go_enter Try.func46, Try.ntmps46
    go_wp2_with fail
    refine HG.out.mono ?_
    rintro e w1 ⟨K, ck, rfl, hok, hB1, hfar⟩
    have hal1 := (Below.refl _ w1).alloc (Nat.le_refl _) (.cells #[.int .u64 x.time, .slice K x.ids.length ck] 38)
    have hb2 := (HB0.out.later hB1).later hal1
    have hx2 := Blk.new w1 #[.int .u64 x.time, .slice K x.ids.length ck] 38 [.int .u64 x.time, .slice K x.ids.length ck] rfl
    have HO2 := Lib.hid (hok.below hal1)
    have HBW := Lib.hid ((HAL.out.trans (hB1.mono HAL.out.size)).trans (hal1.mono (HAL.out.trans (hB1.mono HAL.out.size)).size))
    have hgl : w.heap.size < w1.heap.size := (HB0.out.later hB1).1
    have HFR := Lib.hid (show ∀ a, K = some a → a.block ≠ w.heap.size from fun a e => by have h1 := hfar a e; have h2 := HB0.out.1; omega)
    clear hfar
    obtain ⟨w2, hw2⟩ : ∃ w2, w1.alloc (.cells #[.int .u64 x.time, .slice K x.ids.length ck] 38) = w2 := ⟨_, rfl⟩
    obtain ⟨g1, hg1⟩ : ∃ g1, w1.heap.size = g1 := ⟨_, rfl⟩
    rw [hw2] at hb2 hx2 HO2 HBW
    rw [hg1] at hx2 hgl
    have s0 := hb2.cell 0 rfl
    have s1 := hb2.cell 1 rfl
    have t0 := hb2.fz 0 rfl
    have t1 := hb2.fz 1 rfl
    have v0 := hx2.cell 0 rfl
    have v1 := hx2.cell 1 rfl
    have HB2 := Lib.hid hb2
    clear r0 r1 q0 q1 z0 z1 hB1 hal1 hok hb2 hx2 hmin hsl2
    by_cases he13 : er = 13
    · subst he13
      have u := HB2.out.set 0 (.int .u64 0) (by simp)
      have u0 := u.cell 0 rfl
      have u1 := (u.set 1 (.slice none 0 0) (by simp)).cell 1 rfl
      have HE := Lib.hid (show scanE b f (q : Int) props = 10 by rw [HSE.out]; exact if_pos ⟨by omega, Or.inl rfl⟩)
      clear u
      go_wp2
      refine bodyPost_ret (v := .tuple #[.agg #[.int .u64 0, .slice none 0 0], .int .i64 0, .int .i64 (10 : Nat)]) (by simp [results, Try.results46, go_sem, u0, u1]) rfl ?_
      exact scan_none HE.out (by first | decide | assumption) ((HBW.out.setCell (Nat.le_refl _) _).setCell (Nat.le_refl _) _)
    by_cases he7 : er = 7
    · subst he7
      have u := HB2.out.set 0 (.int .u64 0) (by simp)
      have u0 := u.cell 0 rfl
      have u1 := (u.set 1 (.slice none 0 0) (by simp)).cell 1 rfl
      have HE := Lib.hid (show scanE b f (q : Int) props = 10 by rw [HSE.out]; exact if_pos ⟨by omega, Or.inr rfl⟩)
      clear u
      go_wp2
      refine bodyPost_ret (v := .tuple #[.agg #[.int .u64 0, .slice none 0 0], .int .i64 0, .int .i64 (10 : Nat)]) (by simp [results, Try.results46, go_sem, u0, u1]) rfl ?_
      exact scan_none HE.out (by first | decide | assumption) ((HBW.out.setCell (Nat.le_refl _) _).setCell (Nat.le_refl _) _)
    have he13' : ((er : Int) == 13) = false := by simp; omega
    have he7' : ((er : Int) == 7) = false := by simp; omega
    by_cases he0 : er = 0
    · have hqm := HQM.out he0
      have hqm2 : (q : Int) + (m : Int) ≤ 9223372036854775807 := by omega
      subst he0
      have HE := Lib.hid (show scanE b f (q : Int) props = 0 by rw [HSE.out]; exact if_neg (fun h => by omega))
      have HV := Lib.hid (show scanV b f (q : Int) props = x by unfold scanV; rw [HE.out, if_pos rfl, HY.out, HX.out])
      have HN := Lib.hid (show scanN b f (q : Int) props = q + m by unfold scanN; rw [HE.out, if_pos rfl, HY.out, HM.out, Int.toNat_natCast])
      have u := HB2.out.set 0 (.int .u64 x.time) (by simp)
      have u0 := u.cell 0 rfl
      have u1 := (u.set 1 (.slice K x.ids.length ck) (by simp)).cell 1 rfl
      clear u
      go_wp2
      refine bodyPost_ret (v := .tuple #[.agg #[.int .u64 x.time, .slice K x.ids.length ck], .int .i64 ((q : Int) + (m : Int)), .int .i64 0]) (by simp [results, Try.results46, go_sem, u0, u1]) rfl ?_
      unfold GotScan
      rw [HV.out, HN.out, HE.out]
      exact ⟨K, ck, rfl, evok_set HO2.out HFR.out _ _, (HBW.out.setCell (Nat.le_refl _) _).setCell (Nat.le_refl _) _⟩
    have he0' : ((er : Int) == 0) = false := by simp; omega
    have u := HB2.out.set 0 (.int .u64 0) (by simp)
    have u0 := u.cell 0 rfl
    have u1 := (u.set 1 (.slice none 0 0) (by simp)).cell 1 rfl
    have HE := Lib.hid (show scanE b f (q : Int) props = er by rw [HSE.out]; exact if_neg (fun h => by omega))
    clear u
    go_wp2
    refine bodyPost_ret (v := .tuple #[.agg #[.int .u64 0, .slice none 0 0], .int .i64 0, .int .i64 (er : Nat)]) (by simp [results, Try.results46, go_sem, u0, u1]) rfl ?_
    exact scan_none HE.out (by first | decide | assumption) ((HBW.out.setCell (Nat.le_refl _) _).setCell (Nat.le_refl _) _)
  · have k3 : n = f := k2.symm
    subst k3
    clear k2
    have HC := Lib.hid (show n ≤ n from hfn)
    by_cases h1 : p < 0
    · have HE := Lib.hid (show scanE b n p props = 1 by unfold scanE; rw [if_pos h1])
      go_enter Try.func46, Try.ntmps46
      go_wp2
      refine bodyPost_ret (v := .tuple #[.agg #[.int .u64 0, .slice none 0 0], .int .i64 0, .int .i64 1]) (by simp [results, Try.results46, go_sem, z0, z1]) rfl ?_
      exact scan_none HE.out (by decide) ((HAL.out.setCell (Nat.le_refl _) _).setCell (Nat.le_refl _) _)
    by_cases h2 : (n : Int) ≤ p
    · have HE := Lib.hid (show scanE b n p props = 13 by unfold scanE; rw [if_neg h1, HLEN.out, if_pos h2])
      have h2' : p ≥ (n : Int) := h2
      clear h2
      go_enter Try.func46, Try.ntmps46
      go_wp2
      refine bodyPost_ret (v := .tuple #[.agg #[.int .u64 0, .slice none 0 0], .int .i64 0, .int .i64 13]) (by simp [results, Try.results46, go_sem, z0, z1]) rfl ?_
      exact scan_none HE.out (by decide) ((HAL.out.setCell (Nat.le_refl _) _).setCell (Nat.le_refl _) _)
    obtain ⟨q, rfl⟩ : ∃ q : Nat, p = (q : Int) := Int.eq_ofNat_of_zero_le (by omega)
    have h2' : ¬ (q : Int) ≥ (n : Int) := h2
    obtain ⟨k, hk⟩ : ∃ k, min q n = k := ⟨_, rfl⟩
    have hkF : k ≤ n := by omega
    have hmin : min (q : Int) (n : Int) = (k : Int) := by omega
    have hsl := fun W => slice_midB (P := Try.prog) 22 (by kernel_rfl) 1 (by kernel_rfl) A n c k n hkF (by omega) W
    have hrd := rd_cut HD.out hnc hfn hkF
    obtain ⟨A7, hA7⟩ : ∃ A7, fromAddr A c k 1 = A7 := ⟨_, rfl⟩
    rw [hA7] at hrd
    have hsl2 : ∀ W, (Instr.slice 22 (.slice A n c) (some (.int .i64 (k : Int))) (some (.int .i64 (n : Int))) none).run Try.prog W = .ok (.slice A7 (n - k) (c - k)) W := fun W => by rw [← hA7]; exact hsl W
    clear hsl
    have FG := refGetR A7 (n - k) (c - k) ((b.take n).drop k) props w0 (by omega) (by omega) (hrd.below HAL.out)
    unfold GotGet at FG
    obtain ⟨y, hy⟩ : ∃ y, (b.take n).drop k = y := ⟨_, rfl⟩
    have HY := Lib.hid (show restB b n (q : Int) = y by unfold restB; rw [Int.toNat_natCast, hk, hy])
    rw [hy] at FG
    obtain ⟨x, hx⟩ : ∃ x, getE y props = x := ⟨_, rfl⟩
    obtain ⟨m, hm⟩ : ∃ m, getN y props = m := ⟨_, rfl⟩
    obtain ⟨er, her⟩ : ∃ er, errR y (propsR props) = er := ⟨_, rfl⟩
    have hmn : m ≤ n := by
      by_cases h0 : errR y (propsR props) = 0
      · have h3 := (get_ok h0).2.1
        have h4 := (get_ok h0).2.2.2
        have h5 : y.length ≤ n := by rw [← hy, List.length_drop, List.length_take]; have := HLEN.out; omega
        omega
      · rw [← hm]; unfold getN; rw [if_neg h0]; exact Nat.zero_le _
    have hyl : y.length = n - k := by rw [← hy, List.length_drop, List.length_take]; have := HLEN.out; omega
    have HQM := Lib.hid (show er = 0 → q + m ≤ n from fun h0 => by
      rw [← her] at h0
      have h3 := (get_ok h0).2.1
      have h4 := (get_ok h0).2.2
      omega)
    rw [hx, hm, her] at FG
    have HX := Lib.hid hx
    have HM := Lib.hid hm
    have HER := Lib.hid her
    have HG := Lib.hid FG
    have hnm : (n : Int) ≤ 9223372036854775807 := by omega
    have HSE := Lib.hid (show scanE b n (q : Int) props = if n < n ∧ (er = 13 ∨ er = 7) then 10 else er by unfold scanE; rw [if_neg h1, HLEN.out, if_neg h2, HY.out, her])
    clear FG hx hm her hy hk hA7 hrd h2 hyl
    go_enter Try.func46, Try.ntmps46
    go_wp2_with fail
    refine HG.out.mono ?_
    rintro e w1 ⟨K, ck, rfl, hok, hB1, hfar⟩
    have hal1 := (Below.refl _ w1).alloc (Nat.le_refl _) (.cells #[.int .u64 x.time, .slice K x.ids.length ck] 38)
    have hb2 := (HB0.out.later hB1).later hal1
    have hx2 := Blk.new w1 #[.int .u64 x.time, .slice K x.ids.length ck] 38 [.int .u64 x.time, .slice K x.ids.length ck] rfl
    have HO2 := Lib.hid (hok.below hal1)
    have HBW := Lib.hid ((HAL.out.trans (hB1.mono HAL.out.size)).trans (hal1.mono (HAL.out.trans (hB1.mono HAL.out.size)).size))
    have hgl : w.heap.size < w1.heap.size := (HB0.out.later hB1).1
    have HFR := Lib.hid (show ∀ a, K = some a → a.block ≠ w.heap.size from fun a e => by have h1 := hfar a e; have h2 := HB0.out.1; omega)
    clear hfar
    obtain ⟨w2, hw2⟩ : ∃ w2, w1.alloc (.cells #[.int .u64 x.time, .slice K x.ids.length ck] 38) = w2 := ⟨_, rfl⟩
    obtain ⟨g1, hg1⟩ : ∃ g1, w1.heap.size = g1 := ⟨_, rfl⟩
    rw [hw2] at hb2 hx2 HO2 HBW
    rw [hg1] at hx2 hgl
    have s0 := hb2.cell 0 rfl
    have s1 := hb2.cell 1 rfl
    have t0 := hb2.fz 0 rfl
    have t1 := hb2.fz 1 rfl
    have v0 := hx2.cell 0 rfl
    have v1 := hx2.cell 1 rfl
    have HB2 := Lib.hid hb2
    clear r0 r1 q0 q1 z0 z1 hB1 hal1 hok hb2 hx2 hmin hsl2
    by_cases he0 : er = 0
    · have hqm := HQM.out he0
      have hqm2 : (q : Int) + (m : Int) ≤ 9223372036854775807 := by omega
      subst he0
      have HE := Lib.hid (show scanE b n (q : Int) props = 0 by rw [HSE.out]; exact if_neg (fun h => by omega))
      have HV := Lib.hid (show scanV b n (q : Int) props = x by unfold scanV; rw [HE.out, if_pos rfl, HY.out, HX.out])
      have HN := Lib.hid (show scanN b n (q : Int) props = q + m by unfold scanN; rw [HE.out, if_pos rfl, HY.out, HM.out, Int.toNat_natCast])
      have u := HB2.out.set 0 (.int .u64 x.time) (by simp)
      have u0 := u.cell 0 rfl
      have u1 := (u.set 1 (.slice K x.ids.length ck) (by simp)).cell 1 rfl
      clear u
      go_wp2
      refine bodyPost_ret (v := .tuple #[.agg #[.int .u64 x.time, .slice K x.ids.length ck], .int .i64 ((q : Int) + (m : Int)), .int .i64 0]) (by simp [results, Try.results46, go_sem, u0, u1]) rfl ?_
      unfold GotScan
      rw [HV.out, HN.out, HE.out]
      exact ⟨K, ck, rfl, evok_set HO2.out HFR.out _ _, (HBW.out.setCell (Nat.le_refl _) _).setCell (Nat.le_refl _) _⟩
    have he0' : ((er : Int) == 0) = false := by simp; omega
    have u := HB2.out.set 0 (.int .u64 0) (by simp)
    have u0 := u.cell 0 rfl
    have u1 := (u.set 1 (.slice none 0 0) (by simp)).cell 1 rfl
    have HE := Lib.hid (show scanE b n (q : Int) props = er by rw [HSE.out]; exact if_neg (fun h => by omega))
    clear u
    go_wp2
    refine bodyPost_ret (v := .tuple #[.agg #[.int .u64 0, .slice none 0 0], .int .i64 0, .int .i64 (er : Nat)]) (by simp [results, Try.results46, go_sem, u0, u1]) rfl ?_
    exact scan_none HE.out (by first | decide | assumption) ((HBW.out.setCell (Nat.le_refl _) _).setCell (Nat.le_refl _) _)
  · have k4 : n = f := k3.symm
    subst k4
    clear k3
    have HC := Lib.hid (show n ≤ n from hfn)
    by_cases h1 : p < 0
    · have HE := Lib.hid (show scanE b n p props = 1 by unfold scanE; rw [if_pos h1])
      go_enter Try.func46, Try.ntmps46
      go_wp2
      refine bodyPost_ret (v := .tuple #[.agg #[.int .u64 0, .slice none 0 0], .int .i64 0, .int .i64 1]) (by simp [results, Try.results46, go_sem, z0, z1]) rfl ?_
      exact scan_none HE.out (by decide) ((HAL.out.setCell (Nat.le_refl _) _).setCell (Nat.le_refl _) _)
    by_cases h2 : (n : Int) ≤ p
    · have HE := Lib.hid (show scanE b n p props = 13 by unfold scanE; rw [if_neg h1, HLEN.out, if_pos h2])
      have h2' : p ≥ (n : Int) := h2
      clear h2
      go_enter Try.func46, Try.ntmps46
      go_wp2
      refine bodyPost_ret (v := .tuple #[.agg #[.int .u64 0, .slice none 0 0], .int .i64 0, .int .i64 13]) (by simp [results, Try.results46, go_sem, z0, z1]) rfl ?_
      exact scan_none HE.out (by decide) ((HAL.out.setCell (Nat.le_refl _) _).setCell (Nat.le_refl _) _)
    obtain ⟨q, rfl⟩ : ∃ q : Nat, p = (q : Int) := Int.eq_ofNat_of_zero_le (by omega)
    have h2' : ¬ (q : Int) ≥ (n : Int) := h2
    obtain ⟨k, hk⟩ : ∃ k, min q n = k := ⟨_, rfl⟩
    have hkF : k ≤ n := by omega
    have hmin : min (q : Int) (n : Int) = (k : Int) := by omega
    have hsl := fun W => slice_midB (P := Try.prog) 22 (by kernel_rfl) 1 (by kernel_rfl) A n c k n hkF (by omega) W
    have hrd := rd_cut HD.out hnc hfn hkF
    obtain ⟨A7, hA7⟩ : ∃ A7, fromAddr A c k 1 = A7 := ⟨_, rfl⟩
    rw [hA7] at hrd
    have hsl2 : ∀ W, (Instr.slice 22 (.slice A n c) (some (.int .i64 (k : Int))) (some (.int .i64 (n : Int))) none).run Try.prog W = .ok (.slice A7 (n - k) (c - k)) W := fun W => by rw [← hA7]; exact hsl W
    clear hsl
    have FG := refGetR A7 (n - k) (c - k) ((b.take n).drop k) props w0 (by omega) (by omega) (hrd.below HAL.out)
    unfold GotGet at FG
    obtain ⟨y, hy⟩ : ∃ y, (b.take n).drop k = y := ⟨_, rfl⟩
    have HY := Lib.hid (show restB b n (q : Int) = y by unfold restB; rw [Int.toNat_natCast, hk, hy])
    rw [hy] at FG
    obtain ⟨x, hx⟩ : ∃ x, getE y props = x := ⟨_, rfl⟩
    obtain ⟨m, hm⟩ : ∃ m, getN y props = m := ⟨_, rfl⟩
    obtain ⟨er, her⟩ : ∃ er, errR y (propsR props) = er := ⟨_, rfl⟩
    have hmn : m ≤ n := by
      by_cases h0 : errR y (propsR props) = 0
      · have h3 := (get_ok h0).2.1
        have h4 := (get_ok h0).2.2.2
        have h5 : y.length ≤ n := by rw [← hy, List.length_drop, List.length_take]; have := HLEN.out; omega
        omega
      · rw [← hm]; unfold getN; rw [if_neg h0]; exact Nat.zero_le _
    have hyl : y.length = n - k := by rw [← hy, List.length_drop, List.length_take]; have := HLEN.out; omega
    have HQM := Lib.hid (show er = 0 → q + m ≤ n from fun h0 => by
      rw [← her] at h0
      have h3 := (get_ok h0).2.1
      have h4 := (get_ok h0).2.2
      omega)
    rw [hx, hm, her] at FG
    have HX := Lib.hid hx
    have HM := Lib.hid hm
    have HER := Lib.hid her
    have HG := Lib.hid FG
    have hnm : (n : Int) ≤ 9223372036854775807 := by omega
    have HSE := Lib.hid (show scanE b n (q : Int) props = if n < n ∧ (er = 13 ∨ er = 7) then 10 else er by unfold scanE; rw [if_neg h1, HLEN.out, if_neg h2, HY.out, her])
    clear FG hx hm her hy hk hA7 hrd h2 hyl
    go_enter Try.func46, Try.ntmps46
    go_wp2_with fail
    refine HG.out.mono ?_
    rintro e w1 ⟨K, ck, rfl, hok, hB1, hfar⟩
    have hal1 := (Below.refl _ w1).alloc (Nat.le_refl _) (.cells #[.int .u64 x.time, .slice K x.ids.length ck] 38)
    have hb2 := (HB0.out.later hB1).later hal1
    have hx2 := Blk.new w1 #[.int .u64 x.time, .slice K x.ids.length ck] 38 [.int .u64 x.time, .slice K x.ids.length ck] rfl
    have HO2 := Lib.hid (hok.below hal1)
    have HBW := Lib.hid ((HAL.out.trans (hB1.mono HAL.out.size)).trans (hal1.mono (HAL.out.trans (hB1.mono HAL.out.size)).size))
    have hgl : w.heap.size < w1.heap.size := (HB0.out.later hB1).1
    have HFR := Lib.hid (show ∀ a, K = some a → a.block ≠ w.heap.size from fun a e => by have h1 := hfar a e; have h2 := HB0.out.1; omega)
    clear hfar
    obtain ⟨w2, hw2⟩ : ∃ w2, w1.alloc (.cells #[.int .u64 x.time, .slice K x.ids.length ck] 38) = w2 := ⟨_, rfl⟩
    obtain ⟨g1, hg1⟩ : ∃ g1, w1.heap.size = g1 := ⟨_, rfl⟩
    rw [hw2] at hb2 hx2 HO2 HBW
    rw [hg1] at hx2 hgl
    have s0 := hb2.cell 0 rfl
    have s1 := hb2.cell 1 rfl
    have t0 := hb2.fz 0 rfl
    have t1 := hb2.fz 1 rfl
    have v0 := hx2.cell 0 rfl
    have v1 := hx2.cell 1 rfl
    have HB2 := Lib.hid hb2
    clear r0 r1 q0 q1 z0 z1 hB1 hal1 hok hb2 hx2 hmin hsl2
    by_cases he0 : er = 0
    · have hqm := HQM.out he0
      have hqm2 : (q : Int) + (m : Int) ≤ 9223372036854775807 := by omega
      subst he0
      have HE := Lib.hid (show scanE b n (q : Int) props = 0 by rw [HSE.out]; exact if_neg (fun h => by omega))
      have HV := Lib.hid (show scanV b n (q : Int) props = x by unfold scanV; rw [HE.out, if_pos rfl, HY.out, HX.out])
      have HN := Lib.hid (show scanN b n (q : Int) props = q + m by unfold scanN; rw [HE.out, if_pos rfl, HY.out, HM.out, Int.toNat_natCast])
      have u := HB2.out.set 0 (.int .u64 x.time) (by simp)
      have u0 := u.cell 0 rfl
      have u1 := (u.set 1 (.slice K x.ids.length ck) (by simp)).cell 1 rfl
      clear u
      go_wp2
      refine bodyPost_ret (v := .tuple #[.agg #[.int .u64 x.time, .slice K x.ids.length ck], .int .i64 ((q : Int) + (m : Int)), .int .i64 0]) (by simp [results, Try.results46, go_sem, u0, u1]) rfl ?_
      unfold GotScan
      rw [HV.out, HN.out, HE.out]
      exact ⟨K, ck, rfl, evok_set HO2.out HFR.out _ _, (HBW.out.setCell (Nat.le_refl _) _).setCell (Nat.le_refl _) _⟩
    have he0' : ((er : Int) == 0) = false := by simp; omega
    have u := HB2.out.set 0 (.int .u64 0) (by simp)
    have u0 := u.cell 0 rfl
    have u1 := (u.set 1 (.slice none 0 0) (by simp)).cell 1 rfl
    have HE := Lib.hid (show scanE b n (q : Int) props = er by rw [HSE.out]; exact if_neg (fun h => by omega))
    clear u
    go_wp2
    refine bodyPost_ret (v := .tuple #[.agg #[.int .u64 0, .slice none 0 0], .int .i64 0, .int .i64 (er : Nat)]) (by simp [results, Try.results46, go_sem, u0, u1]) rfl ?_
    exact scan_none HE.out (by first | decide | assumption) ((HBW.out.setCell (Nat.le_refl _) _).setCell (Nat.le_refl _) _)
end Go.Proofs.Ytbbjoffknoaoiaa.Scan
