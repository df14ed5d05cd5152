/-
  The landed since and until: stretches made narrower, in place (stage 15). By an AI agent.
  The landed prev and next (stage 15). By an AI agent. (Written by wip/tools/genpn15.py.)
  The walk of the reference's Ids. By an AI agent.
  The walks of the reference's Names and Ids; slices.Contains over names. By an AI agent.
  The walk of the reference's May (traces). By an AI agent.
  slices.Equal over ids, and the reference's SameEvent. By an AI agent.
-/
import Derived.Test.YtdbgaccnejffpaaGreatDoorGSatDual18
import Derived.Test.YtdbgaccnejffpaaGreatDoorGSatDual1
import Derived.Test.YtdbgaccnejffpaaGreatDoorGSatDual16
import Derived.Test.YtdbgaccnejffpaaGreatDoorGSatDual5
import Derived.Test.YtdbgaccnejffpaaGreatDoorGSatDual15
import Derived.Lib.IndexAny
namespace Go.Proofs.YtdbgaccnejffpaaGreatDoor.Sat
open Go.RowKit Go.Proofs.YtdbgaccnejffpaaGreatDoor.Ints Go.Proofs.YtdbgaccnejffpaaGreatDoor.Mem Go.Proofs.YtdbgaccnejffpaaGreatDoor.Src Go.Proofs.YtdbgaccnejffpaaGreatDoor.Paths Go.Proofs.YtdbgaccnejffpaaGreatDoor.Late Go.Proofs.YtdbgaccnejffpaaGreatDoor.Trace
def lastN (f : Nat → Bool) : Nat → Nat
 | 0 => 0
 | i + 1 => if f (i + 1) = true then lastN f i else i + 1
theorem lastN_le (f : Nat → Bool) (i : Nat) : lastN f i ≤ i := by
 induction i with
 | zero => exact Nat.le_refl _
 | succ i ih => unfold lastN; split <;> omega
theorem lastN_iff (f : Nat → Bool) : ∀ i j, j ≤ i → (lastN f i ≤ j ↔ ∀ q, j < q → q ≤ i → f q = true) := by
 intro i
 induction i with
 | zero => intro j hj; exact ⟨fun _ q h1 h2 => by omega, fun _ => Nat.zero_le _⟩
 | succ i ih =>
  intro j hj
  unfold lastN
  by_cases e : j = i + 1
  ·refine ⟨fun _ q h1 h2 => by omega, fun _ => ?_⟩
   have := lastN_le f i
   split <;> omega
  ·by_cases hf : f (i + 1) = true
   ·rw [if_pos hf, ih j (by omega)]
    constructor
    ·intro h q h1 h2
     by_cases e2 : q = i + 1
     ·rw [e2]; exact hf
     ·exact h q h1 (by omega)
    ·intro h q h1 h2
     exact h q h1 (by omega)
   ·rw [if_neg hf]
    constructor
    ·intro h; omega
    ·intro h
     exact absurd (h (i + 1) (by omega) (Nat.le_refl _)) hf
def nextU (f : Nat → Bool) (n : Nat) : Nat → Nat
 | 0 => n
 | d + 1 => if f (n - (d + 1)) = true then nextU f n d else n - (d + 1) + 1
theorem nextU_ge (f : Nat → Bool) (n d : Nat) : n - d ≤ nextU f n d ∧ (d ≤ n → nextU f n d ≤ n) ∧ (0 < d → d ≤ n → n - d < nextU f n d) := by
 induction d with
 | zero => exact ⟨Nat.le_refl _, fun _ => Nat.le_refl _, fun h => by omega⟩
 | succ d ih =>
  unfold nextU
  obtain ⟨h1, h2, h3⟩ := ih
  split
  ·exact ⟨by omega, fun h => h2 (by omega), fun _ h => by omega⟩
  ·exact ⟨by omega, fun h => by omega, fun _ h => by omega⟩
theorem nextU_iff (f : Nat → Bool) (n : Nat) : ∀ d, d ≤ n → ∀ j, n - d ≤ j → j < n → (j < nextU f n d ↔ ∀ q, n - d ≤ q → q < j → f q = true) := by
 intro d
 induction d with
 | zero => intro _ j h1 h2; omega
 | succ d ih =>
  intro hd j h1 h2
  unfold nextU
  by_cases hf : f (n - (d + 1)) = true
  ·rw [if_pos hf]
   by_cases e : j = n - (d + 1)
   ·have h5 := nextU_ge f n d
    exact ⟨fun _ q q1 q2 => by omega, fun _ => by omega⟩
   ·rw [ih (by omega) j (by omega) h2]
    constructor
    ·intro h q q1 q2
     by_cases e2 : q = n - (d + 1)
     ·rw [e2]; exact hf
     ·exact h q (by omega) q2
    ·intro h q q1 q2
     exact h q (by omega) q2
  ·rw [if_neg hf]
   constructor
   ·intro h q q1 q2; omega
   ·intro h
    rcases Nat.lt_or_ge j (n - (d + 1) + 1) with g | g
    ·exact g
    ·exact absurd (h (n - (d + 1)) (Nat.le_refl _) (by omega)) hf
def GotN (w : World) (lo o n : Nat) (s t : Nat → Nat) (e : Ending) (w' : World) : Prop := e = .returned (.slice (some ⟨o, 0, none⟩) n n) ∧ OS w' lo o n s t ∧ w.grownBy w' (some o)
theorem OS.congr {w : World} {lo b n : Nat} {s t s' t' : Nat → Nat} (h : OS w lo b n s t) (hs : ∀ j, j < n → s j = s' j) (ht : ∀ j, j < n → t j = t' j) : OS w lo b n s' t' := by
 unfold OS
 rw [← il_congr (f := sg s t) (g := sg s' t') (fun q hq => by
  unfold sg
  split
  ·exact hs _ (by omega)
  ·exact ht _ (by omega))]
 exact h
theorem RB.grown {w w' : World} {b n o : Nat} {f : Nat → Bool} (h : RB w b n f) (hg : w.grownBy w' (some o)) (hne : b ≠ o) : RB w' b n f := fun j hj => hg.cell (h j hj) (fun e => hne (by injection e))
theorem grown_tr {w w1 w2 : World} {o : Nat} (h : w.grownBy w1 (some o)) (h2 : w1.grownBy w2 (some o)) : w.grownBy w2 (some o) :=
 ⟨h2.os.trans h.os, h2.tape.trans h.tape, h2.output.trans h.output, Nat.le_trans h.size h2.size, fun k hk hne => (h2.block k (by have := h.size; omega) hne).trans (h.block k hk hne)⟩
theorem grown_al {w w1 : World} {o : Nat} (h : w.grownBy w1 (some o)) (ob : Obj) : w.grownBy (w1.alloc ob) (some o) := grown_tr h (World.grownBy_alloc w1 ob _)
set_option maxHeartbeats 8000000 in
set_option maxRecDepth 100000 in
theorem landSince (b o n lo : Nat) (f : Nat → Bool) (s t : Nat → Nat) (w : World) (h : RB w b n f) (ho : OS w lo o n s t) (hne : b ≠ o) (hs : ∀ j, j < n → s j ≤ 1000) (hn : n ≤ 1000) :
  Calls Tryz.prog 44 #[.slice (some ⟨b, 0, none⟩) n n, .slice (some ⟨o, 0, none⟩) n n] w (GotN w lo o n (fun j => max (s j) (lastN f j)) t) := by
 have H := Lib.hid h
 have HO0 := Lib.hid ho
 have HS := Lib.hid hs
 have HNE := Lib.hid hne
 have HG0 := Lib.hid (show w.grownBy w (some o) from ⟨rfl, rfl, rfl, Nat.le_refl _, fun _ _ _ => rfl⟩)
 clear h ho hs hne
 go_enter Tryz.func44, Tryz.ntmps44
 go_wp2_with fail
 go_loopw [5, 6, 7, 10] (fun z _ _ v wr => ∃ (i F : Nat) (u : Nat → Nat), v = .int .i64 (i : Nat) ∧ z = .int .i64 (F : Nat) ∧ i ≤ n ∧ F ≤ i ∧ Hid (∀ k, i = k + 1 → F = lastN f k) ∧ OS wr lo o n u t ∧ Hid ((∀ j, j < i → u j = max (s j) (lastN f j)) ∧ ∀ j, i ≤ j → u j = s j) ∧ w.grownBy wr (some o)) (fun _ _ _ v _ => n - (intOf v).toNat)
 case atStart => exact ⟨0, 0, s, rfl, rfl, Nat.zero_le _, Nat.le_refl _, Lib.hid (fun k hk => by omega), HO0.out, Lib.hid ⟨fun j hj => absurd hj (Nat.not_lt_zero _), fun _ _ => rfl⟩, HG0.out⟩
 case round =>
  obtain ⟨i, F, u, rfl, rfl, hin, hFi, hF, hO, hu, hG⟩ := hrel
  have HO := Lib.hid hO
  have HG := Lib.hid hG
  by_cases hlt : i < n
  ·have x1 := (H.out.grown hG HNE.out) i hlt
   obtain ⟨S, hS⟩ : ∃ S, s i = S := ⟨_, rfl⟩
   have hS1 : S ≤ 1000 := by rw [← hS]; exact HS.out i hlt
   obtain ⟨T, hT⟩ : ∃ T, t i = T := ⟨_, rfl⟩
   obtain ⟨r1, r2⟩ := hO.rs i hlt
   rw [hu.out.2 i (Nat.le_refl _), hS] at r1
   rw [hT] at r2
   obtain ⟨W, hW⟩ : ∃ W, wr.alloc (.cells #[.int .i64 ((S : Nat) : Int), .int .i64 ((T : Nat) : Int)] 93) = W := ⟨_, rfl⟩
   have hbW : Below wr.heap.size wr W := by rw [← hW]; exact (Below.refl _ _).alloc (Nat.le_refl _) _
   have HGW := Lib.hid (show w.grownBy W (some o) from by rw [← hW]; exact grown_al hG _)
   have hOW := hO.below hbW
   have HOW := Lib.hid hOW
   have d1 : W.cell? ⟨wr.heap.size, 0, none⟩ = some (.int .i64 ((S : Nat) : Int)) := by rw [← hW]; exact box_cell 0 _ rfl
   have y1 := below_cell hbW x1
   obtain ⟨z1, z2⟩ := hOW.rs i hlt
   have f1 := own_fz hOW (i * 2)
   have HSS := Lib.hid hS
   clear hO hG hOW hbW hS hT x1
   cases hf : f i
   ·rw [hf] at y1
    obtain ⟨M, hM⟩ : ∃ M, max S i = M := ⟨_, rfl⟩
    have hMi : max ((S : Nat) : Int) ((i : Nat) : Int) = ((M : Nat) : Int) := by omega
    have HL := Lib.hid (show lastN f i = i from by
     cases i with
     | zero => rfl
     | succ k => unfold lastN; rw [if_neg (by rw [hf]; decide)])
    have HM := Lib.hid hM
    clear hf hM
    go_wp2_with fail
    go_roundw
    case rel =>
     refine ⟨i + 1, i, upd u i M, by simp, rfl, by omega, by omega, Lib.hid (fun k hk => ?_), HOW.out.put1 hlt M, Lib.hid ⟨fun j hj => ?_, fun j hj => ?_⟩, grown_tr HGW.out (grown_cell W ⟨o, i * 2, none⟩ _)⟩
     ·obtain rfl : i = k := by omega
      exact HL.out.symm
     ·by_cases e : j = i
      ·rw [e, upd_at, HSS.out, HL.out, HM.out]
      ·rw [upd_off _ _ e]; exact hu.out.1 j (by omega)
     ·rw [upd_off _ _ (by omega)]; exact hu.out.2 j (by omega)
    case measure => (show n - (i + 1) < n - i; omega)
   ·rw [hf] at y1
    obtain ⟨M, hM⟩ : ∃ M, max S F = M := ⟨_, rfl⟩
    have hMi : max ((S : Nat) : Int) ((F : Nat) : Int) = ((M : Nat) : Int) := by omega
    have HL := Lib.hid (show lastN f i = F from by
     cases i with
     | zero => show 0 = F; omega
     | succ k => unfold lastN; rw [if_pos hf]; exact (hF.out k rfl).symm)
    have HM := Lib.hid hM
    clear hf hM
    go_wp2_with fail
    go_roundw
    case rel =>
     refine ⟨i + 1, F, upd u i M, by simp, rfl, by omega, by omega, Lib.hid (fun k hk => ?_), HOW.out.put1 hlt M, Lib.hid ⟨fun j hj => ?_, fun j hj => ?_⟩, grown_tr HGW.out (grown_cell W ⟨o, i * 2, none⟩ _)⟩
     ·obtain rfl : i = k := by omega
      exact HL.out.symm
     ·by_cases e : j = i
      ·rw [e, upd_at, HSS.out, HL.out, HM.out]
      ·rw [upd_off _ _ e]; exact hu.out.1 j (by omega)
     ·rw [upd_off _ _ (by omega)]; exact hu.out.2 j (by omega)
    case measure => (show n - (i + 1) < n - i; omega)
  ·obtain rfl : i = n := by omega
   clear hO hG
   go_wp2_with fail
   go_ret
   exact ⟨rfl, HO.out.congr (fun j hj => hu.out.1 j hj) (fun _ _ => rfl), HG.out⟩
set_option maxHeartbeats 8000000 in
set_option maxRecDepth 100000 in
theorem landUntil (b o n lo : Nat) (f : Nat → Bool) (s t : Nat → Nat) (w : World) (h : RB w b n f) (ho : OS w lo o n s t) (hne : b ≠ o) (ht : ∀ j, j < n → t j ≤ 1000) (hn : n ≤ 1000) :
  Calls Tryz.prog 45 #[.slice (some ⟨b, 0, none⟩) n n, .slice (some ⟨o, 0, none⟩) n n] w (GotN w lo o n s (fun j => min (t j) (nextU f n (n - j)))) := by
 have H := Lib.hid h
 have HO0 := Lib.hid ho
 have HS := Lib.hid ht
 have HNE := Lib.hid hne
 have HG0 := Lib.hid (show w.grownBy w (some o) from ⟨rfl, rfl, rfl, Nat.le_refl _, fun _ _ _ => rfl⟩)
 have hni : ((n : Nat) : Int) ≤ 1000 := by omega
 clear h ho ht hne
 go_enter Tryz.func45, Tryz.ntmps45
 go_wp2_with fail
 go_loopw [5, 6] (fun z v wr => ∃ (k F : Nat) (u : Nat → Nat), v = .int .i64 (((k : Nat) : Int) - 1) ∧ z = .int .i64 (F : Nat) ∧ k ≤ n ∧ F ≤ n ∧ Hid (F = nextU f n (n - k)) ∧ OS wr lo o n s u ∧ Hid ((∀ j, k ≤ j → j < n → u j = min (t j) (nextU f n (n - j))) ∧ ∀ j, j < k → u j = t j) ∧ w.grownBy wr (some o)) (fun _ v _ => (intOf v + 1).toNat)
 case atStart => exact ⟨n, n, t, rfl, rfl, Nat.le_refl _, Nat.le_refl _, Lib.hid (by rw [Nat.sub_self]; rfl), HO0.out, Lib.hid ⟨fun j h1 h2 => by omega, fun _ _ => rfl⟩, HG0.out⟩
 case round =>
  obtain ⟨k, F, u, rfl, rfl, hkn, hFn, hF, hO, hu, hG⟩ := hrel
  have HO := Lib.hid hO
  have HG := Lib.hid hG
  cases k with
  | zero =>
   clear hO hG
   go_wp2_with fail
   go_ret
   exact ⟨rfl, HO.out.congr (fun _ _ => rfl) (fun j hj => hu.out.1 j (Nat.zero_le _) hj), HG.out⟩
  | succ i =>
   have hlt : i < n := by omega
   have ei : ((i + 1 : Nat) : Int) - 1 = ((i : Nat) : Int) := by omega
   rw [ei]
   have x1 := (H.out.grown hG HNE.out) i hlt
   obtain ⟨T, hT⟩ : ∃ T, t i = T := ⟨_, rfl⟩
   have hT1 : T ≤ 1000 := by rw [← hT]; exact HS.out i hlt
   obtain ⟨r1, r2⟩ := hO.rs i hlt
   rw [hu.out.2 i (Nat.lt_succ_self _), hT] at r2
   have f1 := own_fz hO (i * 2 + 1)
   have HSS := Lib.hid hT
   have hin : ((i : Nat) : Int) < ((n : Nat) : Int) := by omega
   have hi0 : (0 : Int) ≤ ((i : Nat) : Int) := by omega
   have hnd : n - i = n - (i + 1) + 1 := by omega
   have HND := Lib.hid hnd
   have HLT := Lib.hid hlt
   have HKN := Lib.hid hkn
   clear hO hG hT ei hnd hkn
   cases hf : f i
   ·rw [hf] at x1
    obtain ⟨i2, hi2⟩ : ∃ i2, i + 1 = i2 := ⟨_, rfl⟩
    have hi2i : ((i : Nat) : Int) + 1 = ((i2 : Nat) : Int) := by omega
    obtain ⟨M, hM⟩ : ∃ M, min T i2 = M := ⟨_, rfl⟩
    have hMi : min ((T : Nat) : Int) ((i2 : Nat) : Int) = ((M : Nat) : Int) := by omega
    have HL := Lib.hid (show nextU f n (n - i) = i2 from by
     rw [HND.out]
     unfold nextU
     rw [show n - (n - (i + 1) + 1) = i by omega, if_neg (by rw [hf]; decide)]
     exact hi2)
    have HM := Lib.hid (And.intro hM hi2)
    clear hf hM hi2 hlt
    go_wp2_with fail
    go_roundw
    case rel =>
     refine ⟨i, i2, upd u i M, rfl, rfl, by have := HLT.out; omega, by have := HLT.out; have := HM.out.2; omega, Lib.hid HL.out.symm, HO.out.put2 HLT.out M, Lib.hid ⟨fun j h1 h2 => ?_, fun j hj => ?_⟩, grown_tr HG.out (grown_cell wr ⟨o, i * 2 + 1, none⟩ _)⟩
     ·by_cases e : j = i
      ·rw [e, upd_at, HSS.out, HL.out, HM.out.1]
      ·rw [upd_off _ _ e]; exact hu.out.1 j (by omega) h2
     ·rw [upd_off _ _ (by omega)]; exact hu.out.2 j (by omega)
    case measure => (simp only [intOf]; omega)
   ·rw [hf] at x1
    obtain ⟨M, hM⟩ : ∃ M, min T F = M := ⟨_, rfl⟩
    have hMi : min ((T : Nat) : Int) ((F : Nat) : Int) = ((M : Nat) : Int) := by omega
    have HL := Lib.hid (show nextU f n (n - i) = F from by
     rw [HND.out]
     unfold nextU
     rw [show n - (n - (i + 1) + 1) = i by omega, if_pos hf]
     exact hF.out.symm)
    have HM := Lib.hid hM
    clear hf hM hlt
    go_wp2_with fail
    go_roundw
    case rel =>
     refine ⟨i, F, upd u i M, rfl, rfl, by have := HLT.out; omega, hFn, Lib.hid HL.out.symm, HO.out.put2 HLT.out M, Lib.hid ⟨fun j h1 h2 => ?_, fun j hj => ?_⟩, grown_tr HG.out (grown_cell wr ⟨o, i * 2 + 1, none⟩ _)⟩
     ·by_cases e : j = i
      ·rw [e, upd_at, HSS.out, HL.out, HM.out]
      ·rw [upd_off _ _ e]; exact hu.out.1 j (by omega) h2
     ·rw [upd_off _ _ (by omega)]; exact hu.out.2 j (by omega)
    case measure => (simp only [intOf]; omega)
end Go.Proofs.YtdbgaccnejffpaaGreatDoor.Sat

namespace Go.Proofs.YtdbgaccnejffpaaGreatDoor.Sat
open Go.RowKit Go.Proofs.YtdbgaccnejffpaaGreatDoor.Ints Go.Proofs.YtdbgaccnejffpaaGreatDoor.Mem Go.Proofs.YtdbgaccnejffpaaGreatDoor.Src Go.Proofs.YtdbgaccnejffpaaGreatDoor.Paths Go.Proofs.YtdbgaccnejffpaaGreatDoor.Late Go.Proofs.YtdbgaccnejffpaaGreatDoor.Trace
set_option maxHeartbeats 8000000 in
set_option maxRecDepth 100000 in
theorem prev1 (J : Jd) (ba bs bx b i : Nat) (f : Nat → Bool) (lo hi : Int) (w : World) (h : JW J w) (ha : w.cell? ⟨ba, 0, none⟩ = some (.slice (some ⟨b, 0, none⟩) J.n J.n)) (hs0 : w.cell? ⟨bs, 0, none⟩ = some (.int .i64 lo)) (hs1 : w.cell? ⟨bs, 1, none⟩ = some (.int .i64 hi)) (hx : w.cell? ⟨bx, 0, none⟩ = some (.pointer (some ⟨J.gj, 0, none⟩))) (hr : RB w b J.n f) (hin : i < J.n) :
  Calls Tryz.prog 58 #[.int .i64 ((i : Nat) : Int), .pointer (some ⟨ba, 0, none⟩), .pointer (some ⟨bs, 0, none⟩), .pointer (some ⟨bx, 0, none⟩)] w fun e w' => e = .returned (.bool (decide (0 < i) && (f (i - 1) && Ival.hasS lo hi ((tmOf J.t).tm i - (tmOf J.t).tm (i - 1))))) ∧ Below w.heap.size w w' := by
 have hn64 := h.hn
 by_cases h0 : 0 < i
 ·rw [decide_eq_true h0, Bool.true_and]
  obtain ⟨k, hk⟩ : ∃ k, i - 1 = k := ⟨_, rfl⟩
  rw [hk]
  have hkn : k < J.n := by omega
  have HD := Lib.hid (fun V (hb : Below w.heap.size w V) => landDist J k i V (h.below hb) (by omega) (by omega))
  obtain ⟨D, hD⟩ : ∃ D, (tmOf J.t).tm i - (tmOf J.t).tm k = D := ⟨_, rfl⟩
  have hD6 : D < 18446744073709551616 := by obtain ⟨_, _, _, _, _, _, y1, -⟩ := h.ev (show i < J.n by omega); omega
  rw [hD] at HD ⊢
  have HC := Lib.hid (fun V => Ival.progHas lo hi D V hD6)
  have x1 := hr k hkn
  obtain ⟨g, hg⟩ : ∃ g, J.gj = g := ⟨_, rfl⟩
  obtain ⟨n, hn⟩ : ∃ n, J.n = n := ⟨_, rfl⟩
  rw [hg] at hx HD
  rw [hn] at ha hkn hin hn64
  have hw : IntKind.i64.wrap (((i : Nat) : Int) - 1) = ((k : Nat) : Int) := by rw [show ((i : Nat) : Int) - 1 = ((k : Nat) : Int) by omega]; exact wrap_small _ (by omega)
  have g1 : decide (((i : Nat) : Int) > 0) = true := decide_eq_true (by omega)
  have g2 : decide (0 < ((i : Nat) : Int)) = true := decide_eq_true (by omega)
  have g3 : decide (0 < i) = true := decide_eq_true h0
  have hki : ((k : Nat) : Int) < ((n : Nat) : Int) := by omega
  have hkz : (0 : Int) ≤ ((k : Nat) : Int) := by omega
  have HB0 := Lib.hid (Below.refl w.heap.size w)
  clear h hD hg hn hD6 hr hk h0 hkn hin
  cases hf : f k
  ·rw [hf] at x1
   clear hf
   go_enter Tryz.func58, Tryz.ntmps58
   go_wp2_with fail
   refine wp_region_held_drew (S := fun V => V.cell? ⟨ba, 0, none⟩ = some (.slice (some ⟨b, 0, none⟩) n n) ∧ V.cell? ⟨bs, 0, none⟩ = some (.int .i64 lo) ∧ V.cell? ⟨bs, 1, none⟩ = some (.int .i64 hi) ∧ V.cell? ⟨bx, 0, none⟩ = some (.pointer (some ⟨g, 0, none⟩)) ∧ V.cell? ⟨b, k, none⟩ = some (.bool false)) (by kernel_rfl) ⟨ha, hs0, hs1, hx, x1⟩ (fun hHeld => ?_)
   refine tkOp 0 hHeld ?_
   refine tkOp 1 hHeld ?_
   refine tkOp 2 hHeld ?_
   refine tkOp 3 hHeld ?_
   refine tkOp 4 hHeld ?_
   refine tkOp 5 hHeld ?_
   refine tkOp 6 hHeld ?_
   refine tkOp 7 hHeld ?_
   refine tkOp 8 hHeld ?_
   refine tkOp 9 hHeld ?_
   refine Skips.skips (by kernel_rfl) (fun _ _ _ _ _ h => h) hHeld [10, 11, 12, 13, 14, 15, 16] _ 2 _ _ (by kernel_rfl) ?tkk11 ?tkr11
   case tkk11 => kernel_rfl
   simp only [Skips.skipAct, Skips.skipListed, List.getElem?_toArray, List.getElem?_cons_succ, List.getElem?_cons_zero, Act.put, List.setIfInBounds_toArray, List.set_cons_zero, List.set_cons_succ]
   refine tkOp 17 hHeld ?_
   refine tkOp 18 hHeld ?_
   refine wpAnyH_done (by kernel_rfl) ?_ _
   clear hHeld
   go_wp2_with fail
   go_ret
   exact ⟨rfl, HB0.out.drew⟩
  ·rw [hf] at x1
   clear hf
   go_enter Tryz.func58, Tryz.ntmps58
   go_wp2_with fail
   refine wp_region_held_drew (S := fun V => V.cell? ⟨ba, 0, none⟩ = some (.slice (some ⟨b, 0, none⟩) n n) ∧ V.cell? ⟨bs, 0, none⟩ = some (.int .i64 lo) ∧ V.cell? ⟨bs, 1, none⟩ = some (.int .i64 hi) ∧ V.cell? ⟨bx, 0, none⟩ = some (.pointer (some ⟨g, 0, none⟩)) ∧ V.cell? ⟨b, k, none⟩ = some (.bool true)) (by kernel_rfl) ⟨ha, hs0, hs1, hx, x1⟩ (fun hHeld => ?_)
   refine tkOp 0 hHeld ?_
   refine tkOp 1 hHeld ?_
   refine tkOp 2 hHeld ?_
   refine tkOp 3 hHeld ?_
   refine tkOp 4 hHeld ?_
   refine tkOp 5 hHeld ?_
   refine tkOp 6 hHeld ?_
   refine tkOp 7 hHeld ?_
   refine tkOp 8 hHeld ?_
   refine tkOp 9 hHeld ?_
   refine tkOp 10 hHeld ?_
   refine tkOp 11 hHeld ?_
   refine tkOp 12 hHeld ?_
   refine tkOp 13 hHeld ?_
   refine tkOp 14 hHeld ?_
   refine tkCall 15 (fun Kt hKt => ?_)
   go_simp
   (go_at_call 60; refine (HD.out _ (Below.refl _ _).drew).mono ?_; rintro e w1 ⟨rfl, hb1⟩)
   refine hKt.out _ _ ?_ (fun hT => ?_)
   ·(exact ⟨below_cell hb1 (show w.drew.cell? _ = _ from ha), below_cell hb1 (show w.drew.cell? _ = _ from hs0), below_cell hb1 (show w.drew.cell? _ = _ from hs1), below_cell hb1 (show w.drew.cell? _ = _ from hx), below_cell hb1 (show w.drew.cell? _ = _ from x1)⟩)
   clear hKt Kt hHeld
   have hHeld := hT
   clear hT
   try simp only [Act.put, tkA, tkB, tkC]
   refine tkCall 16 (fun Kt hKt => ?_)
   go_simp
   (go_at_call 59; refine (HC.out _).mono ?_; rintro e w2 ⟨rfl, hb2⟩)
   refine hKt.out _ _ ?_ (fun hT => ?_)
   ·(exact ⟨below_cell hb2 (below_cell hb1 (show w.drew.cell? _ = _ from ha)), below_cell hb2 (below_cell hb1 (show w.drew.cell? _ = _ from hs0)), below_cell hb2 (below_cell hb1 (show w.drew.cell? _ = _ from hs1)), below_cell hb2 (below_cell hb1 (show w.drew.cell? _ = _ from hx)), below_cell hb2 (below_cell hb1 (show w.drew.cell? _ = _ from x1))⟩)
   clear hKt Kt hHeld
   have hHeld := hT
   clear hT
   try simp only [Act.put, tkA, tkB, tkC]
   refine tkOp 17 hHeld ?_
   refine tkOp 18 hHeld ?_
   refine wpAnyH_done (by kernel_rfl) ?_ _
   have HB := Lib.hid ((Below.refl w.heap.size w).drew.trans (Below.trans hb1 (hb2.mono hb1.size)))
   clear hHeld hb1 hb2
   go_wp2_with fail
   go_ret
   exact ⟨rfl, HB.out⟩
 ·rw [decide_eq_false h0, Bool.false_and]
  have HB0 := Lib.hid (Below.refl w.heap.size w)
  have g1 : decide (((i : Nat) : Int) > 0) = false := decide_eq_false (by omega)
  have g2 : decide (0 < ((i : Nat) : Int)) = false := decide_eq_false (by omega)
  have g3 : decide (0 < i) = false := decide_eq_false h0
  clear h ha hs0 hs1 hx hr hin h0 hn64
  go_enter Tryz.func58, Tryz.ntmps58
  go_wp2_with fail
  refine wp_region_held_drew (S := fun _ => True) (by kernel_rfl) trivial (fun hHeld => ?_)
  refine tkOp 0 hHeld ?_
  refine tkOp 1 hHeld ?_
  refine tkOp 2 hHeld ?_
  refine Skips.skips (by kernel_rfl) (fun _ _ _ _ _ h => h) hHeld [3, 4, 5, 6, 7] _ 11 _ _ (by kernel_rfl) ?tkk36 ?tkr36
  case tkk36 => kernel_rfl
  simp only [Skips.skipAct, Skips.skipListed, List.getElem?_toArray, List.getElem?_cons_succ, List.getElem?_cons_zero, Act.put, List.setIfInBounds_toArray, List.set_cons_zero, List.set_cons_succ]
  refine tkOp 8 hHeld ?_
  refine tkOp 9 hHeld ?_
  refine Skips.skips (by kernel_rfl) (fun _ _ _ _ _ h => h) hHeld [10, 11, 12, 13, 14, 15, 16] _ 2 _ _ (by kernel_rfl) ?tkk39 ?tkr39
  case tkk39 => kernel_rfl
  simp only [Skips.skipAct, Skips.skipListed, List.getElem?_toArray, List.getElem?_cons_succ, List.getElem?_cons_zero, Act.put, List.setIfInBounds_toArray, List.set_cons_zero, List.set_cons_succ]
  refine tkOp 17 hHeld ?_
  refine tkOp 18 hHeld ?_
  refine wpAnyH_done (by kernel_rfl) ?_ _
  clear hHeld
  go_wp2_with fail
  go_ret
  exact ⟨rfl, HB0.out.drew⟩
set_option maxHeartbeats 8000000 in
set_option maxRecDepth 100000 in
theorem next1 (J : Jd) (ba bs bx b i : Nat) (f : Nat → Bool) (lo hi : Int) (w : World) (h : JW J w) (ha : w.cell? ⟨ba, 0, none⟩ = some (.slice (some ⟨b, 0, none⟩) J.n J.n)) (hs0 : w.cell? ⟨bs, 0, none⟩ = some (.int .i64 lo)) (hs1 : w.cell? ⟨bs, 1, none⟩ = some (.int .i64 hi)) (hx : w.cell? ⟨bx, 0, none⟩ = some (.pointer (some ⟨J.gj, 0, none⟩))) (hr : RB w b J.n f) (hin : i < J.n) :
  Calls Tryz.prog 61 #[.int .i64 ((i : Nat) : Int), .pointer (some ⟨ba, 0, none⟩), .pointer (some ⟨bs, 0, none⟩), .pointer (some ⟨bx, 0, none⟩)] w fun e w' => e = .returned (.bool (decide (i + 1 < J.n) && (f (i + 1) && Ival.hasS lo hi ((tmOf J.t).tm (i + 1) - (tmOf J.t).tm i)))) ∧ Below w.heap.size w w' := by
 have hn64 := h.hn
 by_cases h0 : i + 1 < J.n
 ·rw [decide_eq_true h0, Bool.true_and]
  obtain ⟨k, hk⟩ : ∃ k, i + 1 = k := ⟨_, rfl⟩
  rw [hk]
  have hkn : k < J.n := by omega
  have HD := Lib.hid (fun V (hb : Below w.heap.size w V) => landDist J i k V (h.below hb) (by omega) (by omega))
  obtain ⟨D, hD⟩ : ∃ D, (tmOf J.t).tm k - (tmOf J.t).tm i = D := ⟨_, rfl⟩
  have hD6 : D < 18446744073709551616 := by obtain ⟨_, _, _, _, _, _, y1, -⟩ := h.ev (show k < J.n by omega); omega
  rw [hD] at HD ⊢
  have HC := Lib.hid (fun V => Ival.progHas lo hi D V hD6)
  have x1 := hr k hkn
  obtain ⟨g, hg⟩ : ∃ g, J.gj = g := ⟨_, rfl⟩
  obtain ⟨n, hn⟩ : ∃ n, J.n = n := ⟨_, rfl⟩
  rw [hg] at hx HD
  rw [hn] at ha hkn hin hn64 h0
  have hw : IntKind.i64.wrap (((i : Nat) : Int) + 1) = ((k : Nat) : Int) := by rw [show ((i : Nat) : Int) + 1 = ((k : Nat) : Int) by omega]; exact wrap_small _ (by omega)
  have g1 : decide (((k : Nat) : Int) < ((n : Nat) : Int)) = true := decide_eq_true (by omega)
  have g3 : decide (k < n) = true := decide_eq_true hkn
  have hki : ((k : Nat) : Int) < ((n : Nat) : Int) := by omega
  have hkz : (0 : Int) ≤ ((k : Nat) : Int) := by omega
  have HB0 := Lib.hid (Below.refl w.heap.size w)
  clear h hD hg hn hD6 hr hk h0 hkn hin
  cases hf : f k
  ·rw [hf] at x1
   clear hf
   go_enter Tryz.func61, Tryz.ntmps61
   go_wp2_with fail
   refine wp_region_held_drew (S := fun V => V.cell? ⟨ba, 0, none⟩ = some (.slice (some ⟨b, 0, none⟩) n n) ∧ V.cell? ⟨bs, 0, none⟩ = some (.int .i64 lo) ∧ V.cell? ⟨bs, 1, none⟩ = some (.int .i64 hi) ∧ V.cell? ⟨bx, 0, none⟩ = some (.pointer (some ⟨g, 0, none⟩)) ∧ V.cell? ⟨b, k, none⟩ = some (.bool false)) (by kernel_rfl) ⟨ha, hs0, hs1, hx, x1⟩ (fun hHeld => ?_)
   refine tkOp 0 hHeld ?_
   refine tkOp 1 hHeld ?_
   refine tkOp 2 hHeld ?_
   refine tkOp 3 hHeld ?_
   refine tkOp 4 hHeld ?_
   refine tkOp 5 hHeld ?_
   refine tkOp 6 hHeld ?_
   refine tkOp 7 hHeld ?_
   refine tkOp 8 hHeld ?_
   refine tkOp 9 hHeld ?_
   refine tkOp 10 hHeld ?_
   refine tkOp 11 hHeld ?_
   refine tkOp 12 hHeld ?_
   refine Skips.skips (by kernel_rfl) (fun _ _ _ _ _ h => h) hHeld [13, 14, 15, 16, 17, 18, 19] _ 2 _ _ (by kernel_rfl) ?tkk55 ?tkr55
   case tkk55 => kernel_rfl
   simp only [Skips.skipAct, Skips.skipListed, List.getElem?_toArray, List.getElem?_cons_succ, List.getElem?_cons_zero, Act.put, List.setIfInBounds_toArray, List.set_cons_zero, List.set_cons_succ]
   refine tkOp 20 hHeld ?_
   refine tkOp 21 hHeld ?_
   refine wpAnyH_done (by kernel_rfl) ?_ _
   clear hHeld
   go_wp2_with fail
   go_ret
   exact ⟨rfl, HB0.out.drew⟩
  ·rw [hf] at x1
   clear hf
   go_enter Tryz.func61, Tryz.ntmps61
   go_wp2_with fail
   refine wp_region_held_drew (S := fun V => V.cell? ⟨ba, 0, none⟩ = some (.slice (some ⟨b, 0, none⟩) n n) ∧ V.cell? ⟨bs, 0, none⟩ = some (.int .i64 lo) ∧ V.cell? ⟨bs, 1, none⟩ = some (.int .i64 hi) ∧ V.cell? ⟨bx, 0, none⟩ = some (.pointer (some ⟨g, 0, none⟩)) ∧ V.cell? ⟨b, k, none⟩ = some (.bool true)) (by kernel_rfl) ⟨ha, hs0, hs1, hx, x1⟩ (fun hHeld => ?_)
   refine tkOp 0 hHeld ?_
   refine tkOp 1 hHeld ?_
   refine tkOp 2 hHeld ?_
   refine tkOp 3 hHeld ?_
   refine tkOp 4 hHeld ?_
   refine tkOp 5 hHeld ?_
   refine tkOp 6 hHeld ?_
   refine tkOp 7 hHeld ?_
   refine tkOp 8 hHeld ?_
   refine tkOp 9 hHeld ?_
   refine tkOp 10 hHeld ?_
   refine tkOp 11 hHeld ?_
   refine tkOp 12 hHeld ?_
   refine tkOp 13 hHeld ?_
   refine tkOp 14 hHeld ?_
   refine tkOp 15 hHeld ?_
   refine tkOp 16 hHeld ?_
   refine tkOp 17 hHeld ?_
   refine tkCall 18 (fun Kt hKt => ?_)
   go_simp
   (go_at_call 60; refine (HD.out _ (Below.refl _ _).drew).mono ?_; rintro e w1 ⟨rfl, hb1⟩)
   refine hKt.out _ _ ?_ (fun hT => ?_)
   ·(exact ⟨below_cell hb1 (show w.drew.cell? _ = _ from ha), below_cell hb1 (show w.drew.cell? _ = _ from hs0), below_cell hb1 (show w.drew.cell? _ = _ from hs1), below_cell hb1 (show w.drew.cell? _ = _ from hx), below_cell hb1 (show w.drew.cell? _ = _ from x1)⟩)
   clear hKt Kt hHeld
   have hHeld := hT
   clear hT
   try simp only [Act.put, tkA, tkB, tkC]
   refine tkCall 19 (fun Kt hKt => ?_)
   go_simp
   (go_at_call 59; refine (HC.out _).mono ?_; rintro e w2 ⟨rfl, hb2⟩)
   refine hKt.out _ _ ?_ (fun hT => ?_)
   ·(exact ⟨below_cell hb2 (below_cell hb1 (show w.drew.cell? _ = _ from ha)), below_cell hb2 (below_cell hb1 (show w.drew.cell? _ = _ from hs0)), below_cell hb2 (below_cell hb1 (show w.drew.cell? _ = _ from hs1)), below_cell hb2 (below_cell hb1 (show w.drew.cell? _ = _ from hx)), below_cell hb2 (below_cell hb1 (show w.drew.cell? _ = _ from x1))⟩)
   clear hKt Kt hHeld
   have hHeld := hT
   clear hT
   try simp only [Act.put, tkA, tkB, tkC]
   refine tkOp 20 hHeld ?_
   refine tkOp 21 hHeld ?_
   refine wpAnyH_done (by kernel_rfl) ?_ _
   have HB := Lib.hid ((Below.refl w.heap.size w).drew.trans (Below.trans hb1 (hb2.mono hb1.size)))
   clear hHeld hb1 hb2
   go_wp2_with fail
   go_ret
   exact ⟨rfl, HB.out⟩
 ·rw [decide_eq_false h0, Bool.false_and]
  have HB0 := Lib.hid (Below.refl w.heap.size w)
  obtain ⟨k, hk⟩ : ∃ k, i + 1 = k := ⟨_, rfl⟩
  obtain ⟨n, hn⟩ : ∃ n, J.n = n := ⟨_, rfl⟩
  rw [hn] at ha hn64 h0 hin
  have hw : IntKind.i64.wrap (((i : Nat) : Int) + 1) = ((k : Nat) : Int) := by rw [show ((i : Nat) : Int) + 1 = ((k : Nat) : Int) by omega]; exact wrap_small _ (by omega)
  have g1 : decide (((k : Nat) : Int) < ((n : Nat) : Int)) = false := decide_eq_false (by omega)
  have g3 : decide (k < n) = false := decide_eq_false (by omega)
  clear h hs0 hs1 hx hr hin h0 hn64 hk hn
  go_enter Tryz.func61, Tryz.ntmps61
  go_wp2_with fail
  refine wp_region_held_drew (S := fun V => V.cell? ⟨ba, 0, none⟩ = some (.slice (some ⟨b, 0, none⟩) n n)) (by kernel_rfl) ha (fun hHeld => ?_)
  refine tkOp 0 hHeld ?_
  refine tkOp 1 hHeld ?_
  refine tkOp 2 hHeld ?_
  refine tkOp 3 hHeld ?_
  refine tkOp 4 hHeld ?_
  refine tkOp 5 hHeld ?_
  refine Skips.skips (by kernel_rfl) (fun _ _ _ _ _ h => h) hHeld [6, 7, 8, 9, 10] _ 11 _ _ (by kernel_rfl) ?tkk86 ?tkr86
  case tkk86 => kernel_rfl
  simp only [Skips.skipAct, Skips.skipListed, List.getElem?_toArray, List.getElem?_cons_succ, List.getElem?_cons_zero, Act.put, List.setIfInBounds_toArray, List.set_cons_zero, List.set_cons_succ]
  refine tkOp 11 hHeld ?_
  refine tkOp 12 hHeld ?_
  refine Skips.skips (by kernel_rfl) (fun _ _ _ _ _ h => h) hHeld [13, 14, 15, 16, 17, 18, 19] _ 2 _ _ (by kernel_rfl) ?tkk89 ?tkr89
  case tkk89 => kernel_rfl
  simp only [Skips.skipAct, Skips.skipListed, List.getElem?_toArray, List.getElem?_cons_succ, List.getElem?_cons_zero, Act.put, List.setIfInBounds_toArray, List.set_cons_zero, List.set_cons_succ]
  refine tkOp 20 hHeld ?_
  refine tkOp 21 hHeld ?_
  refine wpAnyH_done (by kernel_rfl) ?_ _
  clear hHeld
  go_wp2_with fail
  go_ret
  exact ⟨rfl, HB0.out.drew⟩
end Go.Proofs.YtdbgaccnejffpaaGreatDoor.Sat

namespace Go.Proofs.YtdbgaccnejffpaaGreatDoor.Trace
open Go.RowKit Go.Proofs.YtdbgaccnejffpaaGreatDoor.Ints Go.Proofs.YtdbgaccnejffpaaGreatDoor.Mem
end Go.Proofs.YtdbgaccnejffpaaGreatDoor.Trace

namespace Go.Proofs.YtdbgaccnejffpaaGreatDoor.Trace
open Go.RowKit Go.Proofs.YtdbgaccnejffpaaGreatDoor.Ints Go.Proofs.YtdbgaccnejffpaaGreatDoor.Mem
theorem containsStr (A : Option Addr) (n c : Nat) (l : List (List UInt8)) (x : ByteArray) (w : World) (hl : l.length = n) (hn : n ≤ 1048576) (h : Strs w A l) :
  Calls Tryz.prog 49 #[.slice A n c, .string x] w fun e w' => e = .returned (.bool (decide (x.data.toList ∈ l))) ∧ w' = w := by
 subst hl
 by_cases h0 : l.length = 0
 ·have : l = [] := List.eq_nil_of_length_eq_zero h0
  subst this
  exact Tryz.slices_Contains_string_empty A c x w
 ·obtain ⟨b, off, rfl, hc⟩ := h (by omega)
  refine (Tryz.slices_Contains_string b off l.length c (l.map fun s => (⟨s.toArray⟩ : ByteArray)) x w (by rw [List.length_map]; exact Nat.le_refl _) (by omega) (fun j hj => ?_)).mono fun e w' ⟨he, hw⟩ => ⟨?_, hw⟩
  ·rw [List.length_map] at hj
   rw [hc j _ (List.getElem?_eq_getElem hj)]
   simp [List.getD, hj, strS]
  ·rw [he, List.take_of_length_le (by rw [List.length_map]; exact Nat.le_refl _)]
   congr 2
   rw [Bool.eq_iff_iff, Lib.containsS_iff, decide_eq_true_iff, List.mem_map]
   constructor
   ·rintro ⟨s, hs, rfl⟩; exact hs
   ·intro hx
    refine ⟨x.data.toList, hx, ?_⟩
    obtain ⟨⟨y⟩⟩ := x
    rfl
theorem strs_at {w : World} {b off : Nat} {l : List (List UInt8)} (h : ∀ (j : Nat) (s : List UInt8), l[j]? = some s → w.cell? ⟨b, off + j, none⟩ = some (strS s)) {k : Nat} (hk : k < l.length) :
  w.cell? ⟨b, off + k, none⟩ = some (.string ⟨(l.getD k []).toArray⟩) := by
 rw [h k _ (List.getElem?_eq_getElem hk)]
 simp [List.getD, hk, strS]
end Go.Proofs.YtdbgaccnejffpaaGreatDoor.Trace

namespace Go.Proofs.YtdbgaccnejffpaaGreatDoor.Trace
open Go.RowKit Go.Proofs.YtdbgaccnejffpaaGreatDoor.Ints Go.Proofs.YtdbgaccnejffpaaGreatDoor.Mem
abbrev boxT (w : World) (NA : Option Addr) (nn nc : Nat) (EA : Option Addr) (ne ec : Nat) : World := w.alloc (.cells #[.slice NA nn nc, .slice EA ne ec] 28)
theorem boxT_at {w W : World} {NA EA : Option Addr} {nn nc ne ec : Nat} (hb : Below (w.heap.size + 1) (boxT w NA nn nc EA ne ec) W) :
  W.cell? ⟨w.heap.size, 0, none⟩ = some (.slice NA nn nc) ∧ W.cell? ⟨w.heap.size, 1, none⟩ = some (.slice EA ne ec) := by
 have h0 : (boxT w NA nn nc EA ne ec).cell? ⟨w.heap.size, 0, none⟩ = some (.slice NA nn nc) := box_cell 0 _ rfl
 have h1 : (boxT w NA nn nc EA ne ec).cell? ⟨w.heap.size, 1, none⟩ = some (.slice EA ne ec) := box_cell 1 _ rfl
 exact ⟨(hb.cell (p := ⟨w.heap.size, 0, none⟩) (by show w.heap.size < w.heap.size + 1; omega)).trans h0, (hb.cell (p := ⟨w.heap.size, 1, none⟩) (by show w.heap.size < w.heap.size + 1; omega)).trans h1⟩
theorem boxT_below {w W : World} {NA EA : Option Addr} {nn nc ne ec : Nat} (hb : Below (w.heap.size + 1) (boxT w NA nn nc EA ne ec) W) : Below w.heap.size w W :=
 ((Below.refl w.heap.size w).alloc (Nat.le_refl _) _).trans (hb.mono (by omega))
end Go.Proofs.YtdbgaccnejffpaaGreatDoor.Trace

namespace Go.Proofs.YtdbgaccnejffpaaGreatDoor.Trace
open Go.RowKit Go.Proofs.YtdbgaccnejffpaaGreatDoor.Ints Go.Proofs.YtdbgaccnejffpaaGreatDoor.Mem
end Go.Proofs.YtdbgaccnejffpaaGreatDoor.Trace
