/-
  Facts on logs, as plain lists. By an AI agent.
  A landed pool by itself (stage 13), and the law's awake. By an AI agent.
-/
import Derived.Test.YtimbbfneaaglbaaGHeadsApart26
import Derived.Test.YtimbbfneaaglbaaGHeadsApart24
import Derived.Test.YtimbbfneaaglbaaGHeadsApart28
import Derived.Test.YtimbbfneaaglbaaGHeadsApart19
import Derived.Test.YtimbbfneaaglbaaGHeadsApart25
namespace Go.Proofs.Ytimbbfneaaglbaa.Log
open Go.RowKit Go.Proofs.Ytimbbfneaaglbaa.Ints Go.Proofs.Ytimbbfneaaglbaa.Mem Go.Proofs.Ytimbbfneaaglbaa.SumMath Go.Proofs.Ytimbbfneaaglbaa.SumWalks Go.Proofs.Ytimbbfneaaglbaa.Trace Go.Proofs.Ytimbbfneaaglbaa.Record

theorem tr_times {S : Nat → Prop} {w : World} {NA EA : Option Addr} {nn nc ne ec : Nat} {t : Tr} (h : TrOk S w NA nn nc EA ne ec t) : ∀ e ∈ t.events, 0 ≤ e.time ∧ e.time ≤ 18446744073709551615 := by
  intro e he
  obtain ⟨i, hi, rfl⟩ := List.getElem_of_mem he
  obtain ⟨b, off, -, hc⟩ := h.evs (by omega)
  exact wf_u64 (hc i _ (List.getElem?_eq_getElem hi)).2.1
theorem enc_eq {t : Tr} (h : mayT t = true) : encL t = headL t.names ++ t.events.flatMap recR := by unfold encL; rw [if_pos h]
theorem enc_bytes (t : Tr) : ∀ z ∈ encL t, 0 ≤ z ∧ z ≤ 255 := by
  intro z hz
  unfold encL at hz
  split at hz
  · rename_i hm
    obtain ⟨h1, h2⟩ := (mayT_iff _).1 hm
    have h64 := ((namesOk_iff _).1 h1).1
    rcases List.mem_append.1 hz with h | h
    · exact head_bytes _ z h
    · exact recs_bytes (p := t.names.length) (by omega) (evs_ids h2) z h
  · cases hz
theorem enc_head {t : Tr} (h : mayT t = true) : headD (encL t) 5 = (t.names, (headL t.names).length, 0) := by
  rw [enc_eq h]
  exact head_enc ((mayT_iff t).1 h).1 _ 5
theorem head_le_enc {t : Tr} (h : mayT t = true) : (headL t.names).length ≤ (encL t).length := by
  rw [enc_eq h, List.length_append]
  omega
/-- Of what the laws make. -/
theorem make_enc {start : Int} {ns : List Int} (hz : ∀ z ∈ ns, 0 ≤ z) : (encL (makeM start ns)).length ≤ 6000 := by
  have hm := make_may (start := start) ns hz
  obtain ⟨h1, h2⟩ := (mayT_iff _).1 hm
  have h3 := make_small start ns
  have h4 := head_len h1
  have h5 := recs_len (es := (makeM start ns).events) (fun e he => may_len hm e he)
  rw [enc_eq hm, List.length_append]
  omega
theorem enc_small {start : Int} {ns : List Int} (hz : ∀ z ∈ ns, 0 ≤ z) : 9 ≤ (encL (makeM start ns)).length ∧ (encL (makeM start ns)).length ≤ 6000 ∧ ∀ z ∈ encL (makeM start ns), 0 ≤ z ∧ z ≤ 255 := by
  have hm := make_may (start := start) ns hz
  obtain ⟨h1, h2⟩ := (mayT_iff _).1 hm
  have h3 := make_small start ns
  have h4 := head_len h1
  have h5 := recs_len (es := (makeM start ns).events) (fun e he => may_len hm e he)
  have h6 := headL_len (makeM start ns).names
  have he : encL (makeM start ns) = headL (makeM start ns).names ++ (makeM start ns).events.flatMap recR := by unfold encL; rw [if_pos hm]
  rw [he, List.length_append]
  refine ⟨by omega, by omega, fun z hz => ?_⟩
  rcases List.mem_append.1 hz with h | h
  · exact head_bytes _ z h
  · exact recs_bytes (p := (makeM start ns).names.length) (by rw [h3.2]; decide) (evs_ids h2) z h
theorem cut_len (b : List Int) (p q x : Nat) : (cutS b p q x).length ≤ b.length := by
  unfold cutS
  split
  · simp
  · rw [List.length_take, List.length_set]; omega
theorem cut_wf {b rs : List Int} (hb : ∀ z ∈ b, 0 ≤ z ∧ z ≤ 255) (hr : ∀ z ∈ rs, (Lit.int .u8 z).wf = true) (p q : Nat) {x : Nat} (hx : x ≤ 255) : ∀ z ∈ cutS b p q x ++ rs, (Lit.int .u8 z).wf = true := by
  intro z hz
  rcases List.mem_append.1 hz with h | h
  · unfold cutS at h
    split at h
    · cases h
    · rename_i h0
      have hlt : p % b.length < b.length := Nat.mod_lt _ (by omega)
      rcases List.mem_or_eq_of_mem_set (List.mem_of_mem_take h) with h1 | rfl
      · exact u8_wf (hb z h1)
      · exact u8_wf (xor_u8 _ (x : Int) (by rw [List.getElem?_eq_getElem hlt]; exact hb _ (List.getElem_mem hlt)) ⟨by omega, by omega⟩).1
  · exact hr z h
end Go.Proofs.Ytimbbfneaaglbaa.Log

namespace Go.Proofs.Ytimbbfneaaglbaa.Heads
open Go.RowKit Go.Proofs.Ytimbbfneaaglbaa.Ints Go.Proofs.Ytimbbfneaaglbaa.Mem Go.Proofs.Ytimbbfneaaglbaa.Trace Go.Proofs.Ytimbbfneaaglbaa.Record Go.Proofs.Ytimbbfneaaglbaa.Log Go.Proofs.Ytimbbfneaaglbaa.Src

structure OneP (L : LPool) (b : List Int) (f : Nat) (X : Nat → Prop) (w : World) (gp base B : Nat) (s : PS) : Prop where
  ex : ∃ D N, L b f w gp D N s ∧ (∀ q, D q → base ≤ q) ∧ N ≤ B ∧ (∀ q, X q → ¬ D q)
  lt : ∀ q, X q → q < w.heap.size
  base : base ≤ w.heap.size
theorem OneP.below {L : LPool} (C : PoolC L) {b : List Int} {f : Nat} {X : Nat → Prop} {w w' : World} {gp base B : Nat} {s : PS} (h : OneP L b f X w gp base B s) (hb : Below w.heap.size w w') : OneP L b f X w' gp base B s := by
  obtain ⟨D, N, h1, h4, h6, h7⟩ := h.ex
  have hlt := (C.lt _ _ _ _ _ _ _ h1).2
  exact ⟨⟨D, N, C.keep _ _ _ _ _ _ _ _ h1 (fun q hq => hb.block q (hlt q hq)) hb.size, h4, h6, h7⟩, fun q hq => Nat.lt_of_lt_of_le (h.lt q hq) hb.size, Nat.le_trans h.base hb.size⟩
theorem OneP.less {L : LPool} {b : List Int} {f : Nat} {X Y : Nat → Prop} {w : World} {gp base B B' : Nat} {s : PS} (h : OneP L b f X w gp base B s) (hY : ∀ q, Y q → X q) (hB : B ≤ B') : OneP L b f Y w gp base B' s := by
  obtain ⟨D, N, h1, h4, h6, h7⟩ := h.ex
  exact ⟨⟨D, N, h1, h4, Nat.le_trans h6 hB, fun q hq => h7 q (hY q hq)⟩, fun q hq => h.lt q (hY q hq), h.base⟩
theorem OneP.box {L : LPool} (C : PoolC L) {b : List Int} {f : Nat} {X : Nat → Prop} {w : World} {gp base B : Nat} {s : PS} (h : OneP L b f X w gp base B s) (o : Obj) : OneP L b f (fun q => X q ∨ q = w.heap.size) (w.alloc o) gp base B s := by
  have hb := h.below C ((Below.refl _ w).alloc (Nat.le_refl _) o)
  obtain ⟨D0, N0, g1, g4, g6, g7⟩ := h.ex
  have hsz : (w.alloc o).heap.size = w.heap.size + 1 := by simp
  have hlt := (C.lt _ _ _ _ _ _ _ g1).2
  refine ⟨⟨D0, N0, C.keep _ _ _ _ _ _ _ _ g1 (fun q hq => heap_alloc_old w o (hlt q hq)) (by omega), g4, g6, fun q hq => ?_⟩, fun q hq => ?_, hb.base⟩
  · rcases hq with hq | hq
    · exact g7 q hq
    · subst hq
      exact fun e => absurd (hlt _ e) (Nat.lt_irrefl _)
  · rcases hq with hq | hq
    · have := h.lt q hq; omega
    · omega
def StepO (L : LPool) (b : List Int) (f : Nat) (X : Nat → Prop) (w w' : World) (gp base B : Nat) (s : PS) : Prop := OneP L b f X w' gp base B s ∧ Kept X w w' ∧ Below base w w'
theorem OneP.land {L : LPool} (_C : PoolC L) {b : List Int} {f : Nat} {X : Nat → Prop} {w : World} {gp base B : Nat} {s s' : PS} (h : OneP L b f X w gp base B s) {fn : FuncId} {args : Array Value} {R : Ending → Prop}
    (hc : ∀ D N, L b f w gp D N s → N ≤ B → Calls Try.prog fn args w fun e w' => R e ∧ TurnL L b f w w' gp D N s') :
    Calls Try.prog fn args w fun e w' => R e ∧ StepO L b f X w w' gp base (B + 1099511627776) s' := by
  obtain ⟨D, N, h1, h4, h6, h7⟩ := h.ex
  refine (hc D N h1 h6).mono ?_
  rintro e w' ⟨hr, D', N', g1, g2, g3, g4⟩
  refine ⟨hr, ⟨⟨D', N', g1, fun q hq => ?_, by omega, fun q hq hd => ?_⟩, fun q hq => Nat.lt_of_lt_of_le (h.lt q hq) g3.size, Nat.le_trans h.base g3.size⟩, Kept.of_left g3 (fun q hq => ⟨h7 q hq, h.lt q hq⟩), g3.below h4 h.base⟩
  · rcases g2 q hq with e2 | e2
    · exact h4 q e2
    · exact Nat.le_trans h.base e2
  · rcases g2 q hd with e2 | e2
    · exact h7 q hq e2
    · have := h.lt q hq; omega
theorem OneP.nextL {L : LPool} (C : PoolC L) {b : List Int} {f : Nat} {X : Nat → Prop} {w : World} {gp base B : Nat} {s : PS} (h : OneP L b f X w gp base B s) (hok : OkP s) (hl : s.hs.length ≤ 100000) (hB : B ≤ 2305843009213693952) (id : Int) (hid : small64 id) :
    Calls Try.prog 15 #[.pointer (some ⟨gp, 0, none⟩), .int .i64 id] w fun e w' => ∃ K c, e = .returned (.tuple #[.agg #[.int .u64 (nextP s id).1.time, .slice K (nextP s id).1.ids.length c], .int .i64 ((nextP s id).2.1 : Nat)]) ∧ EvOk w' (nextP s id).1 K c ∧
      OneP L b f (fun q => X q ∨ (q < w'.heap.size ∧ ∃ a, K = some a ∧ a.block = q)) w' gp base (B + 1099511627776) (nextP s id).2.2 ∧ Kept X w w' ∧ Below base w w' := by
  obtain ⟨D, N, h1, h4, h6, h7⟩ := h.ex
  refine (C.next b f w gp D N s id h1 hok hl (by omega) hid).mono ?_
  rintro e w' ⟨K, c, D', N', he, hev, hK, g1, g2, g3, g4⟩
  refine ⟨K, c, he, hev, ⟨⟨D', N', g1, fun q hq => ?_, by omega, fun q hq => ?_⟩, fun q hq => ?_, Nat.le_trans h.base g3.size⟩, Kept.of_left g3 (fun q hq => ⟨h7 q hq, h.lt q hq⟩), g3.below h4 h.base⟩
  · rcases g2 q hq with e2 | e2
    · exact h4 q e2
    · exact Nat.le_trans h.base e2
  · rcases hq with hq | ⟨-, a, ha, rfl⟩
    · intro hd
      rcases g2 q hd with e2 | e2
      · exact h7 q hq e2
      · have := h.lt q hq; omega
    · exact (hK a ha).2
  · rcases hq with hq | hq
    · exact Nat.lt_of_lt_of_le (h.lt q hq) g3.size
    · exact hq.1
theorem StepO.trans {L : LPool} {b : List Int} {f : Nat} {X Y : Nat → Prop} {w w1 w2 : World} {gp base B B2 : Nat} {s s2 : PS} (h : StepO L b f X w w1 gp base B s) (h2 : StepO L b f Y w1 w2 gp base B2 s2) (hY : ∀ q, X q → Y q) : StepO L b f X w w2 gp base B2 s2 :=
  ⟨h2.1.less hY (Nat.le_refl _), fun q hq => (h2.2.1 q (hY q hq)).trans (h.2.1 q hq), h.2.2.trans h2.2.2⟩
theorem OneP.made {L : LPool} {b : List Int} {f : Nat} {w w1 : World} {gp N : Nat} {D : Nat → Prop} {s : PS} (hB1 : Below w.heap.size w w1) (hL : L b f w1 gp D N s) (hD : ∀ q, D q → w.heap.size ≤ q) (hN : N ≤ 1099511627776) : OneP L b f (fun _ => False) w1 gp w.heap.size 1099511627776 s :=
  ⟨⟨D, N, hL, hD, hN, fun _ hq => False.elim hq⟩, fun _ hq => False.elim hq, hB1.size⟩
/-- What can be read of a right log: all of it. -/
theorem enc_recs {t : Tr} (h : mayT t = true) (ht : ∀ e ∈ t.events, 0 ≤ e.time ∧ e.time ≤ 18446744073709551615) : recordsF (encL t) (encL t).length = (t, 13) ∧ headE (encL t) (encL t).length = 0 := by
  refine ⟨?_, ?_⟩
  · unfold recordsF
    rw [if_neg (Nat.lt_irrefl _)]
    exact dec_enc h ht
  · show (headD ((encL t).take (encL t).length) (if (encL t).length < (encL t).length then 10 else 5)).2.2 = 0
    rw [if_neg (Nat.lt_irrefl _), List.take_length, enc_head h]

theorem enc_none : encL noTr = [87, 71, 76, 1, 0, 3, 186, 0, 236] := by decide +kernel

set_option maxHeartbeats 8000000 in
set_option maxRecDepth 100000 in
theorem lawAwake {L : LPool} (C : PoolC L) (w : World) : Calls Try.prog 7 #[] w fun e w' => e = .returned (.bool true) ∧ Below w.heap.size w w' := by
  have q63 : maxLen = 9223372036854775807 := rfl
  have HE := Lib.hid (landEncode none 0 0 none 0 0 noTr w (TrOk.none _ w) (by decide))
  have hen := enc_recs (t := noTr) (by decide) (fun e he => by cases he)
  have hlen : (encL noTr).length = 9 := by rw [enc_none]; rfl
  have hwf : ∀ z ∈ encL noTr, (Lit.int .u8 z).wf = true := by rw [enc_none]; decide
  have HN := Lib.hid (fun A c W (hc9 : 9 ≤ c) (hc : c ≤ maxLen) (h : Rd .u8 W A 9 (encL noTr)) => C.new A 9 c (encL noTr) none 0 0 [] (-1) 1 W hc9 hc h (Rd.nil _ _ _) (by decide) (by decide) ⟨by decide, by decide⟩ ⟨by decide, by decide⟩)
  have e1 : faultP 9 (-1) = (encL noTr).length := by rw [hlen]; rfl
  have e2 : newE (encL noTr) (encL noTr).length 1 = 0 := by unfold newE; rw [if_neg (by decide)]; exact hen.2
  have e3 : startP (encL noTr) (encL noTr).length 1 = ⟨noTr, 13, 1, [], 0⟩ := by unfold startP; rw [hen.1]
  rw [e1, e2, e3] at HN
  obtain ⟨zs, hzs⟩ : ∃ zs, encL noTr = zs := ⟨_, rfl⟩
  rw [hzs] at HE HN hwf hlen
  have HWF := Lib.hid hwf
  have HLEN := Lib.hid hlen
  clear hen hzs e1 e2 e3 hwf hlen
  go_enter Try.func7, Try.ntmps7
  go_wp2_with fail
  refine HE.out.mono ?_
  intro e w1 hmade
  obtain ⟨A1, c1, rfl, hr1, hc1, hm1, -, -, hB1⟩ := made_slice hmade HWF.out
  rw [HLEN.out] at hr1 hc1 ⊢
  have HB1 := Lib.hid hB1
  have HNN := Lib.hid (HN.out A1 c1 w1 hc1 hm1 hr1)
  clear hmade hr1 hB1 HN HE
  go_wp2_with fail
  refine HNN.out.mono ?_
  rintro e w2 ⟨hB2, (⟨h0, -⟩ | ⟨-, gp, D, N, rfl, hL, hD, hN⟩)⟩
  · exact absurd rfl h0
  have h2 := OneP.made hB2 hL hD hN
  have HB2x := Lib.hid (hB2.mono HB1.out.size)
  have HS1 := Lib.hid HB1.out.size
  obtain ⟨s0, hs0⟩ : ∃ s0 : PS, s0 = ⟨noTr, 13, 1, [], 0⟩ := ⟨_, rfl⟩
  obtain ⟨s1, hs1⟩ : ∃ s1 : PS, s1 = ⟨noTr, 13, 1, [some 0], 3⟩ := ⟨_, rfl⟩
  obtain ⟨s2, hs2⟩ : ∃ s2 : PS, s2 = ⟨noTr, 13, 1, [none], 3⟩ := ⟨_, rfl⟩
  have a0 : addP s0 0 = (0, 0, s1) := by rw [hs0, hs1]; rfl
  have a1 : addP s1 0 = (0, 12, s1) := by rw [hs1]; rfl
  have a2 : closeP s1 0 = (true, s2) := by rw [hs1, hs2]; rfl
  have c1 : countP s1.hs = 1 := by rw [hs1]; rfl
  have c2 : cellsP s1.t s1.hs = 3 := by rw [hs1]; rfl
  have c3 : s2.peak = 3 := by rw [hs2]
  have k0 : OkP s0 := by rw [hs0]; exact ⟨(fun i k e => by cases e), by decide, by decide, by decide, (fun e he => by cases he)⟩
  have k1 : OkP s1 := by have h := k0.add (k := 0) (Nat.zero_le _); rw [a0] at h; exact h
  have k2 : OkP s2 := by have h := k1.close 0; rw [a2] at h; exact h
  have l0 : s0.hs.length ≤ 100000 := by rw [hs0]; decide
  have l1 : s1.hs.length ≤ 100000 := by rw [hs1]; decide
  have l2 : s2.hs.length ≤ 100000 := by rw [hs2]; decide
  rw [← hs0] at h2
  have f0 := h2.land C (fun D N hL hN => C.open_ zs _ w2 gp D N s0 hL k0 l0 (by omega))
  rw [a0] at f0
  have F0 := Lib.hid f0
  have F1 := Lib.hid (fun W B (hb : OneP L zs zs.length (fun _ => False) W gp w1.heap.size B s1) (hB : B ≤ 9000000000000) => hb.land C (fun D N hL hN => C.open_ zs _ W gp D N s1 hL k1 l1 (by omega)))
  have F2 := Lib.hid (fun W B (hb : OneP L zs zs.length (fun _ => False) W gp w1.heap.size B s1) (hB : B ≤ 9000000000000) => hb.land C (fun D N hL hN => C.count zs _ W gp D N s1 hL k1 l1 (by omega)))
  have F3 := Lib.hid (fun W B (hb : OneP L zs zs.length (fun _ => False) W gp w1.heap.size B s1) (hB : B ≤ 9000000000000) => hb.land C (fun D N hL hN => C.cells zs _ W gp D N s1 hL k1 l1 (by omega)))
  have F4 := Lib.hid (fun W B (hb : OneP L zs zs.length (fun _ => False) W gp w1.heap.size B s1) (hB : B ≤ 9000000000000) => hb.land C (fun D N hL hN => C.close zs _ W gp D N s1 0 hL k1 l1 (by omega) ⟨by decide, by decide⟩))
  have F5 := Lib.hid (fun W B (hb : OneP L zs zs.length (fun _ => False) W gp w1.heap.size B s2) (hB : B ≤ 9000000000000) => hb.land C (fun D N hL hN => C.peak zs _ W gp D N s2 hL k2 l2 (by omega)))
  rw [a1] at F1
  rw [c1] at F2
  rw [c2] at F3
  rw [a2] at F4
  rw [c3] at F5
  have HB0 := Lib.hid h2.base
  clear hs0 hs1 hs2 a0 a1 a2 c1 c2 c3 k0 k1 k2 l0 l1 l2 f0 hL hD hN hB2 h2 HNN
  go_wp2_with fail
  refine F0.out.mono ?_
  rintro e w3 ⟨rfl, hs3⟩
  have G3 := Lib.hid (F1.out w3 _ hs3.1 (by omega))
  have B3 := Lib.hid hs3.2.2
  clear hs3
  go_wp2_with fail
  refine G3.out.mono ?_
  rintro e w4 ⟨rfl, hs4⟩
  have G4 := Lib.hid (F2.out w4 _ hs4.1 (by omega))
  have B4 := Lib.hid (B3.out.trans hs4.2.2)
  clear hs4
  go_wp2_with fail
  refine G4.out.mono ?_
  rintro e w5 ⟨rfl, hs5⟩
  have G5 := Lib.hid (F3.out w5 _ hs5.1 (by omega))
  have B5 := Lib.hid (B4.out.trans hs5.2.2)
  clear hs5
  go_wp2_with fail
  refine G5.out.mono ?_
  rintro e w6 ⟨rfl, hs6⟩
  have G6 := Lib.hid (F4.out w6 _ hs6.1 (by omega))
  have B6 := Lib.hid (B5.out.trans hs6.2.2)
  clear hs6
  go_wp2_with fail
  refine G6.out.mono ?_
  rintro e w7 ⟨rfl, hs7⟩
  have G7 := Lib.hid (F5.out w7 _ hs7.1 (by omega))
  have B7 := Lib.hid (B6.out.trans hs7.2.2)
  clear hs7
  go_wp2_with fail
  refine G7.out.mono ?_
  rintro e w8 ⟨rfl, hs8⟩
  have B8 := Lib.hid (HB1.out.trans (HB2x.out.trans ((B7.out.trans hs8.2.2).mono HS1.out)))
  clear hs8
  go_wp2_with fail
  go_ret
  exact ⟨rfl, B8.out⟩
end Go.Proofs.Ytimbbfneaaglbaa.Heads
