/-
  Facts on logs, as plain lists. By an AI agent.
  A landed pool by itself (stage 13), and the law's awake. By an AI agent.
  The walk of the law's Sealed (stage 10): some bytes, within bounds. Written by wip/tools/genseal10.py. By an AI agent.
-/
import Derived.Test.YtimbbfneaaglbaaGreatGHeadsPlays31
import Derived.Test.YtimbbfneaaglbaaGreatGHeadsPlays29
import Derived.Test.YtimbbfneaaglbaaGreatGHeadsPlays33
import Derived.Test.YtimbbfneaaglbaaGreatGHeadsPlays23
import Derived.Test.YtimbbfneaaglbaaGreatGHeadsPlays30
namespace Go.Proofs.YtimbbfneaaglbaaGreat.Log
open Go.RowKit Go.Proofs.YtimbbfneaaglbaaGreat.Ints Go.Proofs.YtimbbfneaaglbaaGreat.Mem Go.Proofs.YtimbbfneaaglbaaGreat.SumMath Go.Proofs.YtimbbfneaaglbaaGreat.SumWalks Go.Proofs.YtimbbfneaaglbaaGreat.Trace Go.Proofs.YtimbbfneaaglbaaGreat.Record

theorem tr_times {S : Nat → Prop} {w : World} {NA EA : Option Addr} {nn nc ne ec : Nat} {t : Tr} (h : TrOk S w NA nn nc EA ne ec t) : ∀ e ∈ t.events, 0 ≤ e.time ∧ e.time ≤ 18446744073709551615 := by
  intro e he
  obtain ⟨i, hi, rfl⟩ := List.getElem_of_mem he
  obtain ⟨b, off, -, hc⟩ := h.evs (by omega)
  exact wf_u64 (hc i _ (List.getElem?_eq_getElem hi)).2.1
theorem enc_eq {t : Tr} (h : mayT t = true) : encL t = headL t.names ++ t.events.flatMap recR := by unfold encL; rw [if_pos h]
theorem enc_bytes (t : Tr) : ∀ z ∈ encL t, 0 ≤ z ∧ z ≤ 255 := by
  intro z hz
  unfold encL at hz
  split at hz
  · rename_i hm
    obtain ⟨h1, h2⟩ := (mayT_iff _).1 hm
    have h64 := ((namesOk_iff _).1 h1).1
    rcases List.mem_append.1 hz with h | h
    · exact head_bytes _ z h
    · exact recs_bytes (p := t.names.length) (by omega) (evs_ids h2) z h
  · cases hz
theorem enc_head {t : Tr} (h : mayT t = true) : headD (encL t) 5 = (t.names, (headL t.names).length, 0) := by
  rw [enc_eq h]
  exact head_enc ((mayT_iff t).1 h).1 _ 5
theorem head_le_enc {t : Tr} (h : mayT t = true) : (headL t.names).length ≤ (encL t).length := by
  rw [enc_eq h, List.length_append]
  omega
/-- Of what the laws make. -/
theorem make_enc {start : Int} {ns : List Int} (hz : ∀ z ∈ ns, 0 ≤ z) : (encL (makeM start ns)).length ≤ 6000 := by
  have hm := make_may (start := start) ns hz
  obtain ⟨h1, h2⟩ := (mayT_iff _).1 hm
  have h3 := make_small start ns
  have h4 := head_len h1
  have h5 := recs_len (es := (makeM start ns).events) (fun e he => may_len hm e he)
  rw [enc_eq hm, List.length_append]
  omega
theorem enc_small {start : Int} {ns : List Int} (hz : ∀ z ∈ ns, 0 ≤ z) : 9 ≤ (encL (makeM start ns)).length ∧ (encL (makeM start ns)).length ≤ 6000 ∧ ∀ z ∈ encL (makeM start ns), 0 ≤ z ∧ z ≤ 255 := by
  have hm := make_may (start := start) ns hz
  obtain ⟨h1, h2⟩ := (mayT_iff _).1 hm
  have h3 := make_small start ns
  have h4 := head_len h1
  have h5 := recs_len (es := (makeM start ns).events) (fun e he => may_len hm e he)
  have h6 := headL_len (makeM start ns).names
  have he : encL (makeM start ns) = headL (makeM start ns).names ++ (makeM start ns).events.flatMap recR := by unfold encL; rw [if_pos hm]
  rw [he, List.length_append]
  refine ⟨by omega, by omega, fun z hz => ?_⟩
  rcases List.mem_append.1 hz with h | h
  · exact head_bytes _ z h
  · exact recs_bytes (p := (makeM start ns).names.length) (by rw [h3.2]; decide) (evs_ids h2) z h
theorem cut_len (b : List Int) (p q x : Nat) : (cutS b p q x).length ≤ b.length := by
  unfold cutS
  split
  · simp
  · rw [List.length_take, List.length_set]; omega
theorem cut_wf {b rs : List Int} (hb : ∀ z ∈ b, 0 ≤ z ∧ z ≤ 255) (hr : ∀ z ∈ rs, (Lit.int .u8 z).wf = true) (p q : Nat) {x : Nat} (hx : x ≤ 255) : ∀ z ∈ cutS b p q x ++ rs, (Lit.int .u8 z).wf = true := by
  intro z hz
  rcases List.mem_append.1 hz with h | h
  · unfold cutS at h
    split at h
    · cases h
    · rename_i h0
      have hlt : p % b.length < b.length := Nat.mod_lt _ (by omega)
      rcases List.mem_or_eq_of_mem_set (List.mem_of_mem_take h) with h1 | rfl
      · exact u8_wf (hb z h1)
      · exact u8_wf (xor_u8 _ (x : Int) (by rw [List.getElem?_eq_getElem hlt]; exact hb _ (List.getElem_mem hlt)) ⟨by omega, by omega⟩).1
  · exact hr z h
end Go.Proofs.YtimbbfneaaglbaaGreat.Log

namespace Go.Proofs.YtimbbfneaaglbaaGreat.Heads
open Go.RowKit Go.Proofs.YtimbbfneaaglbaaGreat.Ints Go.Proofs.YtimbbfneaaglbaaGreat.Mem Go.Proofs.YtimbbfneaaglbaaGreat.Trace Go.Proofs.YtimbbfneaaglbaaGreat.Record Go.Proofs.YtimbbfneaaglbaaGreat.Log Go.Proofs.YtimbbfneaaglbaaGreat.Src

structure OneP (L : LPool) (b : List Int) (f : Nat) (X : Nat → Prop) (w : World) (gp base B : Nat) (s : PS) : Prop where
  ex : ∃ D N, L b f w gp D N s ∧ (∀ q, D q → base ≤ q) ∧ N ≤ B ∧ (∀ q, X q → ¬ D q)
  lt : ∀ q, X q → q < w.heap.size
  base : base ≤ w.heap.size
theorem OneP.below {L : LPool} (C : PoolC L) {b : List Int} {f : Nat} {X : Nat → Prop} {w w' : World} {gp base B : Nat} {s : PS} (h : OneP L b f X w gp base B s) (hb : Below w.heap.size w w') : OneP L b f X w' gp base B s := by
  obtain ⟨D, N, h1, h4, h6, h7⟩ := h.ex
  have hlt := (C.lt _ _ _ _ _ _ _ h1).2
  exact ⟨⟨D, N, C.keep _ _ _ _ _ _ _ _ h1 (fun q hq => hb.block q (hlt q hq)) hb.size, h4, h6, h7⟩, fun q hq => Nat.lt_of_lt_of_le (h.lt q hq) hb.size, Nat.le_trans h.base hb.size⟩
theorem OneP.less {L : LPool} {b : List Int} {f : Nat} {X Y : Nat → Prop} {w : World} {gp base B B' : Nat} {s : PS} (h : OneP L b f X w gp base B s) (hY : ∀ q, Y q → X q) (hB : B ≤ B') : OneP L b f Y w gp base B' s := by
  obtain ⟨D, N, h1, h4, h6, h7⟩ := h.ex
  exact ⟨⟨D, N, h1, h4, Nat.le_trans h6 hB, fun q hq => h7 q (hY q hq)⟩, fun q hq => h.lt q (hY q hq), h.base⟩
theorem OneP.box {L : LPool} (C : PoolC L) {b : List Int} {f : Nat} {X : Nat → Prop} {w : World} {gp base B : Nat} {s : PS} (h : OneP L b f X w gp base B s) (o : Obj) : OneP L b f (fun q => X q ∨ q = w.heap.size) (w.alloc o) gp base B s := by
  have hb := h.below C ((Below.refl _ w).alloc (Nat.le_refl _) o)
  obtain ⟨D0, N0, g1, g4, g6, g7⟩ := h.ex
  have hsz : (w.alloc o).heap.size = w.heap.size + 1 := by simp
  have hlt := (C.lt _ _ _ _ _ _ _ g1).2
  refine ⟨⟨D0, N0, C.keep _ _ _ _ _ _ _ _ g1 (fun q hq => heap_alloc_old w o (hlt q hq)) (by omega), g4, g6, fun q hq => ?_⟩, fun q hq => ?_, hb.base⟩
  · rcases hq with hq | hq
    · exact g7 q hq
    · subst hq
      exact fun e => absurd (hlt _ e) (Nat.lt_irrefl _)
  · rcases hq with hq | hq
    · have := h.lt q hq; omega
    · omega
def StepO (L : LPool) (b : List Int) (f : Nat) (X : Nat → Prop) (w w' : World) (gp base B : Nat) (s : PS) : Prop := OneP L b f X w' gp base B s ∧ Kept X w w' ∧ Below base w w'
theorem OneP.land {L : LPool} (_C : PoolC L) {b : List Int} {f : Nat} {X : Nat → Prop} {w : World} {gp base B : Nat} {s s' : PS} (h : OneP L b f X w gp base B s) {fn : FuncId} {args : Array Value} {R : Ending → Prop}
    (hc : ∀ D N, L b f w gp D N s → N ≤ B → Calls Tryz.prog fn args w fun e w' => R e ∧ TurnL L b f w w' gp D N s') :
    Calls Tryz.prog fn args w fun e w' => R e ∧ StepO L b f X w w' gp base (B + 1099511627776) s' := by
  obtain ⟨D, N, h1, h4, h6, h7⟩ := h.ex
  refine (hc D N h1 h6).mono ?_
  rintro e w' ⟨hr, D', N', g1, g2, g3, g4⟩
  refine ⟨hr, ⟨⟨D', N', g1, fun q hq => ?_, by omega, fun q hq hd => ?_⟩, fun q hq => Nat.lt_of_lt_of_le (h.lt q hq) g3.size, Nat.le_trans h.base g3.size⟩, Kept.of_left g3 (fun q hq => ⟨h7 q hq, h.lt q hq⟩), g3.below h4 h.base⟩
  · rcases g2 q hq with e2 | e2
    · exact h4 q e2
    · exact Nat.le_trans h.base e2
  · rcases g2 q hd with e2 | e2
    · exact h7 q hq e2
    · have := h.lt q hq; omega
theorem OneP.nextL {L : LPool} (C : PoolC L) {b : List Int} {f : Nat} {X : Nat → Prop} {w : World} {gp base B : Nat} {s : PS} (h : OneP L b f X w gp base B s) (hok : OkP s) (hl : s.hs.length ≤ 100000) (hB : B ≤ 2305843009213693952) (id : Int) (hid : small64 id) :
    Calls Tryz.prog 48 #[.pointer (some ⟨gp, 0, none⟩), .int .i64 id] w fun e w' => ∃ K c, e = .returned (.tuple #[.agg #[.int .u64 (nextP s id).1.time, .slice K (nextP s id).1.ids.length c], .int .i64 ((nextP s id).2.1 : Nat)]) ∧ EvOk w' (nextP s id).1 K c ∧
      OneP L b f (fun q => X q ∨ (q < w'.heap.size ∧ ∃ a, K = some a ∧ a.block = q)) w' gp base (B + 1099511627776) (nextP s id).2.2 ∧ Kept X w w' ∧ Below base w w' := by
  obtain ⟨D, N, h1, h4, h6, h7⟩ := h.ex
  refine (C.next b f w gp D N s id h1 hok hl (by omega) hid).mono ?_
  rintro e w' ⟨K, c, D', N', he, hev, hK, g1, g2, g3, g4⟩
  refine ⟨K, c, he, hev, ⟨⟨D', N', g1, fun q hq => ?_, by omega, fun q hq => ?_⟩, fun q hq => ?_, Nat.le_trans h.base g3.size⟩, Kept.of_left g3 (fun q hq => ⟨h7 q hq, h.lt q hq⟩), g3.below h4 h.base⟩
  · rcases g2 q hq with e2 | e2
    · exact h4 q e2
    · exact Nat.le_trans h.base e2
  · rcases hq with hq | ⟨-, a, ha, rfl⟩
    · intro hd
      rcases g2 q hd with e2 | e2
      · exact h7 q hq e2
      · have := h.lt q hq; omega
    · exact (hK a ha).2
  · rcases hq with hq | hq
    · exact Nat.lt_of_lt_of_le (h.lt q hq) g3.size
    · exact hq.1
theorem StepO.trans {L : LPool} {b : List Int} {f : Nat} {X Y : Nat → Prop} {w w1 w2 : World} {gp base B B2 : Nat} {s s2 : PS} (h : StepO L b f X w w1 gp base B s) (h2 : StepO L b f Y w1 w2 gp base B2 s2) (hY : ∀ q, X q → Y q) : StepO L b f X w w2 gp base B2 s2 :=
  ⟨h2.1.less hY (Nat.le_refl _), fun q hq => (h2.2.1 q (hY q hq)).trans (h.2.1 q hq), h.2.2.trans h2.2.2⟩
theorem OneP.made {L : LPool} {b : List Int} {f : Nat} {w w1 : World} {gp N : Nat} {D : Nat → Prop} {s : PS} (hB1 : Below w.heap.size w w1) (hL : L b f w1 gp D N s) (hD : ∀ q, D q → w.heap.size ≤ q) (hN : N ≤ 1099511627776) : OneP L b f (fun _ => False) w1 gp w.heap.size 1099511627776 s :=
  ⟨⟨D, N, hL, hD, hN, fun _ hq => False.elim hq⟩, fun _ hq => False.elim hq, hB1.size⟩
/-- What can be read of a right log: all of it. -/
theorem enc_recs {t : Tr} (h : mayT t = true) (ht : ∀ e ∈ t.events, 0 ≤ e.time ∧ e.time ≤ 18446744073709551615) : recordsF (encL t) (encL t).length = (t, 13) ∧ headE (encL t) (encL t).length = 0 := by
  refine ⟨?_, ?_⟩
  · unfold recordsF
    rw [if_neg (Nat.lt_irrefl _)]
    exact dec_enc h ht
  · show (headD ((encL t).take (encL t).length) (if (encL t).length < (encL t).length then 10 else 5)).2.2 = 0
    rw [if_neg (Nat.lt_irrefl _), List.take_length, enc_head h]

theorem enc_none : encL noTr = [87, 71, 76, 1, 0, 3, 186, 0, 236] := by decide +kernel

set_option maxHeartbeats 8000000 in
set_option maxRecDepth 100000 in
theorem lawAwake {L : LPool} (C : PoolC L) (w : World) : Calls Tryz.prog 5 #[] w fun e w' => e = .returned (.bool true) ∧ Below w.heap.size w w' := by
  have q63 : maxLen = 9223372036854775807 := rfl
  have HE := Lib.hid (landEncode none 0 0 none 0 0 noTr w (TrOk.none _ w) (by decide))
  have hen := enc_recs (t := noTr) (by decide) (fun e he => by cases he)
  have hlen : (encL noTr).length = 9 := by rw [enc_none]; rfl
  have hwf : ∀ z ∈ encL noTr, (Lit.int .u8 z).wf = true := by rw [enc_none]; decide
  have HN := Lib.hid (fun A c W (hc9 : 9 ≤ c) (hc : c ≤ maxLen) (h : Rd .u8 W A 9 (encL noTr)) => C.new A 9 c (encL noTr) none 0 0 [] (-1) 1 W hc9 hc h (Rd.nil _ _ _) (by decide) (by decide) ⟨by decide, by decide⟩ ⟨by decide, by decide⟩)
  have e1 : faultP 9 (-1) = (encL noTr).length := by rw [hlen]; rfl
  have e2 : newE (encL noTr) (encL noTr).length 1 = 0 := by unfold newE; rw [if_neg (by decide)]; exact hen.2
  have e3 : startP (encL noTr) (encL noTr).length 1 = ⟨noTr, 13, 1, [], 0⟩ := by unfold startP; rw [hen.1]
  rw [e1, e2, e3] at HN
  obtain ⟨zs, hzs⟩ : ∃ zs, encL noTr = zs := ⟨_, rfl⟩
  rw [hzs] at HE HN hwf hlen
  have HWF := Lib.hid hwf
  have HLEN := Lib.hid hlen
  clear hen hzs e1 e2 e3 hwf hlen
  go_enter Tryz.func5, Tryz.ntmps5
  go_wp2_with fail
  refine HE.out.mono ?_
  intro e w1 hmade
  obtain ⟨A1, c1, rfl, hr1, hc1, hm1, -, -, hB1⟩ := made_slice hmade HWF.out
  rw [HLEN.out] at hr1 hc1 ⊢
  have HB1 := Lib.hid hB1
  have HNN := Lib.hid (HN.out A1 c1 w1 hc1 hm1 hr1)
  clear hmade hr1 hB1 HN HE
  go_wp2_with fail
  refine HNN.out.mono ?_
  rintro e w2 ⟨hB2, (⟨h0, -⟩ | ⟨-, gp, D, N, rfl, hL, hD, hN⟩)⟩
  · exact absurd rfl h0
  have h2 := OneP.made hB2 hL hD hN
  have HB2x := Lib.hid (hB2.mono HB1.out.size)
  have HS1 := Lib.hid HB1.out.size
  obtain ⟨s0, hs0⟩ : ∃ s0 : PS, s0 = ⟨noTr, 13, 1, [], 0⟩ := ⟨_, rfl⟩
  obtain ⟨s1, hs1⟩ : ∃ s1 : PS, s1 = ⟨noTr, 13, 1, [some 0], 3⟩ := ⟨_, rfl⟩
  obtain ⟨s2, hs2⟩ : ∃ s2 : PS, s2 = ⟨noTr, 13, 1, [none], 3⟩ := ⟨_, rfl⟩
  have a0 : addP s0 0 = (0, 0, s1) := by rw [hs0, hs1]; rfl
  have a1 : addP s1 0 = (0, 12, s1) := by rw [hs1]; rfl
  have a2 : closeP s1 0 = (true, s2) := by rw [hs1, hs2]; rfl
  have c1 : countP s1.hs = 1 := by rw [hs1]; rfl
  have c2 : cellsP s1.t s1.hs = 3 := by rw [hs1]; rfl
  have c3 : s2.peak = 3 := by rw [hs2]
  have k0 : OkP s0 := by rw [hs0]; exact ⟨(fun i k e => by cases e), by decide, by decide, by decide, (fun e he => by cases he)⟩
  have k1 : OkP s1 := by have h := k0.add (k := 0) (Nat.zero_le _); rw [a0] at h; exact h
  have k2 : OkP s2 := by have h := k1.close 0; rw [a2] at h; exact h
  have l0 : s0.hs.length ≤ 100000 := by rw [hs0]; decide
  have l1 : s1.hs.length ≤ 100000 := by rw [hs1]; decide
  have l2 : s2.hs.length ≤ 100000 := by rw [hs2]; decide
  rw [← hs0] at h2
  have f0 := h2.land C (fun D N hL hN => C.open_ zs _ w2 gp D N s0 hL k0 l0 (by omega))
  rw [a0] at f0
  have F0 := Lib.hid f0
  have F1 := Lib.hid (fun W B (hb : OneP L zs zs.length (fun _ => False) W gp w1.heap.size B s1) (hB : B ≤ 9000000000000) => hb.land C (fun D N hL hN => C.open_ zs _ W gp D N s1 hL k1 l1 (by omega)))
  have F2 := Lib.hid (fun W B (hb : OneP L zs zs.length (fun _ => False) W gp w1.heap.size B s1) (hB : B ≤ 9000000000000) => hb.land C (fun D N hL hN => C.count zs _ W gp D N s1 hL k1 l1 (by omega)))
  have F3 := Lib.hid (fun W B (hb : OneP L zs zs.length (fun _ => False) W gp w1.heap.size B s1) (hB : B ≤ 9000000000000) => hb.land C (fun D N hL hN => C.cells zs _ W gp D N s1 hL k1 l1 (by omega)))
  have F4 := Lib.hid (fun W B (hb : OneP L zs zs.length (fun _ => False) W gp w1.heap.size B s1) (hB : B ≤ 9000000000000) => hb.land C (fun D N hL hN => C.close zs _ W gp D N s1 0 hL k1 l1 (by omega) ⟨by decide, by decide⟩))
  have F5 := Lib.hid (fun W B (hb : OneP L zs zs.length (fun _ => False) W gp w1.heap.size B s2) (hB : B ≤ 9000000000000) => hb.land C (fun D N hL hN => C.peak zs _ W gp D N s2 hL k2 l2 (by omega)))
  rw [a1] at F1
  rw [c1] at F2
  rw [c2] at F3
  rw [a2] at F4
  rw [c3] at F5
  have HB0 := Lib.hid h2.base
  clear hs0 hs1 hs2 a0 a1 a2 c1 c2 c3 k0 k1 k2 l0 l1 l2 f0 hL hD hN hB2 h2 HNN
  go_wp2_with fail
  refine F0.out.mono ?_
  rintro e w3 ⟨rfl, hs3⟩
  have G3 := Lib.hid (F1.out w3 _ hs3.1 (by omega))
  have B3 := Lib.hid hs3.2.2
  clear hs3
  go_wp2_with fail
  refine G3.out.mono ?_
  rintro e w4 ⟨rfl, hs4⟩
  have G4 := Lib.hid (F2.out w4 _ hs4.1 (by omega))
  have B4 := Lib.hid (B3.out.trans hs4.2.2)
  clear hs4
  go_wp2_with fail
  refine G4.out.mono ?_
  rintro e w5 ⟨rfl, hs5⟩
  have G5 := Lib.hid (F3.out w5 _ hs5.1 (by omega))
  have B5 := Lib.hid (B4.out.trans hs5.2.2)
  clear hs5
  go_wp2_with fail
  refine G5.out.mono ?_
  rintro e w6 ⟨rfl, hs6⟩
  have G6 := Lib.hid (F4.out w6 _ hs6.1 (by omega))
  have B6 := Lib.hid (B5.out.trans hs6.2.2)
  clear hs6
  go_wp2_with fail
  refine G6.out.mono ?_
  rintro e w7 ⟨rfl, hs7⟩
  have G7 := Lib.hid (F5.out w7 _ hs7.1 (by omega))
  have B7 := Lib.hid (B6.out.trans hs7.2.2)
  clear hs7
  go_wp2_with fail
  refine G7.out.mono ?_
  rintro e w8 ⟨rfl, hs8⟩
  have B8 := Lib.hid (HB1.out.trans (HB2x.out.trans ((B7.out.trans hs8.2.2).mono HS1.out)))
  clear hs8
  go_wp2_with fail
  go_ret
  exact ⟨rfl, B8.out⟩
end Go.Proofs.YtimbbfneaaglbaaGreat.Heads

namespace Go.Proofs.YtimbbfneaaglbaaGreat.Log
open Go.RowKit Go.Proofs.YtimbbfneaaglbaaGreat.Ints Go.Proofs.YtimbbfneaaglbaaGreat.Mem Go.Proofs.YtimbbfneaaglbaaGreat.SumMath Go.Proofs.YtimbbfneaaglbaaGreat.SumWalks Go.Proofs.YtimbbfneaaglbaaGreat.Trace Go.Proofs.YtimbbfneaaglbaaGreat.Record

/-- A row of bytes of the call's own, so many. -/
def OwnB (w : World) (base : Nat) (v : Value) (n : Nat) : Prop := ∃ zs : List Int, zs.length = n ∧ (∀ z ∈ zs, (Lit.int .u8 z).wf = true) ∧ w.ownsRow base 5 1 v n (zs.map (Value.int .u8))
/-- What a call that hands back some bytes leaves. -/
def GotSome (w : World) (m : Nat) (e : Ending) (w' : World) : Prop :=
  ∃ (zs : List Int) (A : Option Addr) (n c : Nat), e = .returned (.slice A n c) ∧ Rd .u8 w' A n zs ∧ n ≤ c ∧ c ≤ maxLen ∧ n ≤ m ∧ w.heap.size ≤ w'.heap.size ∧ Below w.heap.size w w'
theorem OwnB.reads {w : World} {base : Nat} {v : Value} {n : Nat} (h : OwnB w base v n) : ∃ zs A c, v = .slice A n c ∧ Rd .u8 w A n zs ∧ n ≤ c ∧ c ≤ maxLen := by
  obtain ⟨zs, -, h2, h3⟩ := h
  obtain ⟨A, c, rfl, h4, h5, -⟩ := own_slice h3
  exact ⟨zs, A, c, rfl, Rd.own h3 h2, h4, h5⟩
theorem OwnB.alloc {w : World} {base : Nat} {v : Value} {n : Nat} (h : OwnB w base v n) (o : Obj) : OwnB (w.alloc o) base v n := by
  obtain ⟨zs, h1, h2, h3⟩ := h
  exact ⟨zs, h1, h2, h3.alloc o⟩
theorem OwnB.below {w w' : World} {base : Nat} {v : Value} {n : Nat} (h : OwnB w base v n) (hb : Below w.heap.size w w') : OwnB w' base v n := by
  obtain ⟨zs, h1, h2, h3⟩ := h
  exact ⟨zs, h1, h2, below_row h3 hb⟩
theorem OwnB.weaken {w : World} {base base' : Nat} {v : Value} {n : Nat} (h : OwnB w base v n) (hb : base' ≤ base) : OwnB w base' v n := by
  obtain ⟨zs, h1, h2, h3⟩ := h
  exact ⟨zs, h1, h2, own_weaken h3 hb⟩
theorem OwnB.lt {w : World} {base : Nat} {v : Value} {n : Nat} (h : OwnB w base v n) : ∀ q, v.ownBlock = some q → base ≤ q ∧ q < w.heap.size := by
  obtain ⟨zs, h1, h2, h3⟩ := h
  exact h3.lt
theorem OwnB.made {w w' : World} {n : Nat} {zs : List Int} {e : Ending} (h : Made w n zs e w') (hl : zs.length = n) (hz : ∀ z ∈ zs, (Lit.int .u8 z).wf = true) : ∃ v, e = .returned v ∧ OwnB w' w.heap.size v n ∧ Below w.heap.size w w' := by
  obtain ⟨v, rfl, h1, h2⟩ := h
  exact ⟨v, rfl, ⟨zs, hl, hz, h1⟩, h2⟩
theorem OwnB.lit (w : World) (base : Nat) (zs : List Int) (n : Nat) (hn : zs.length = n) (hm : n ≤ maxLen) (hz : ∀ z ∈ zs, (Lit.int .u8 z).wf = true) (hb : base ≤ w.heap.size) :
    OwnB (w.alloc (.cells (zs.map (Value.int .u8)).toArray 5)) base (.slice (some ⟨w.heap.size, 0, none⟩) n n) n := ⟨zs, hn, hz, own_lit w base 5 .u8 zs n hn hm hb⟩
section
variable {P : Program} {w : World}
theorem wpList_append_b {ops : Array Oper} {rest : List Oper} {o : Oper} {a : Act} {Q : Exit → Act → World → Prop} (hgd : o.guard = none) (s x : Operand) (t : TypeId)
    (ho : o.op = .call { callee := .builtin .append, args := #[s, x], argTypes := #[t, t] }) (base : Nat) (i : TypeInfo)
    (ht : P.underlying t = some (.slice 5)) (hi : P.info? 5 = some i) (hz : i.zero = some (.int .u8 0)) (hsize : i.size = 1) (hby : i.bytes = 1)
    (v : Value) (n : Nat) (hs : a.eval s = v) (hown : OwnB w base v n) (A : Option Addr) (m c : Nat) (ys : List Int) (hx : a.eval x = .slice A m c) (hr : Rd .u8 w A m ys)
    (hl : n + m ≤ 1099511627776) (hbase : base ≤ w.heap.size)
    (h : ∀ v' w', OwnB w' base v' (n + m) → w.grownBy w' v.ownBlock → wpList P ops Q rest (a.put o.dst v') w') : wpList P ops Q (o :: rest) a w := by
  obtain ⟨zs, h1, h2, h3⟩ := hown
  refine wpList_append_ints hgd s x t ho .u8 base 5 i 1 ht hi hz hsize hby v n zs hs h3 A m c ys hx hr (by unfold maxLen; omega) (by omega) hbase fun v' w' h4 h5 => h v' w' ⟨zs ++ ys, by rw [List.length_append, h1, hr.len], fun z hz => ?_, h4⟩ h5
  rcases List.mem_append.1 hz with h6 | h6
  · exact h2 z h6
  · exact hr.all z h6
theorem wpList_append_bs {ops : Array Oper} {rest : List Oper} {o : Oper} {a : Act} {Q : Exit → Act → World → Prop} (hgd : o.guard = none) (sl x : Operand) (t u : TypeId)
    (ho : o.op = .call { callee := .builtin .append, args := #[sl, x], argTypes := #[t, u] })
    (base : Nat) (i : TypeInfo) (ht : P.underlying t = some (.slice 5)) (hu : P.underlying u = some .string) (hi : P.info? 5 = some i) (hz : i.zero = some (.int .u8 0))
    (hsize : i.size = 1) (hby : i.bytes = 1)
    (v : Value) (n : Nat) (hs : a.eval sl = v) (hown : OwnB w base v n) (s : ByteArray) (hx : a.eval x = .string s)
    (hl : n + s.size ≤ 1099511627776) (hbase : base ≤ w.heap.size)
    (h : ∀ v' w', OwnB w' base v' (n + s.size) → w.grownBy w' v.ownBlock → wpList P ops Q rest (a.put o.dst v') w') : wpList P ops Q (o :: rest) a w := by
  obtain ⟨zs, h1, h2, h3⟩ := hown
  refine wpList_append_str hgd sl x t u ho base 5 i ht hu hi hz hsize hby v n zs hs h3 s hx (by unfold maxLen; omega) (by omega) hbase fun v' w' h4 h5 => h v' w' ⟨zs ++ toI s.data.toList, by rw [List.length_append, h1, size_toI], fun z hz => ?_, h4⟩ h5
  rcases List.mem_append.1 hz with h6 | h6
  · exact h2 z h6
  · exact u8_wf (toI_bytes _ z h6)
end
theorem refPutB (A : Option Addr) (n c : Nat) (zs : List Int) (w : World) (hc : n ≤ 140737488351232) (h : Rd .u8 w A n zs) :
    Calls Tryz.prog 30 #[.slice A n c] w fun e w' => ∃ v, e = .returned v ∧ OwnB w' w.heap.size v (n + 4) ∧ Below w.heap.size w w' := by
  refine (refPut A n c zs w hc h).mono fun e w' hm => OwnB.made hm ?_ ?_
  · rw [List.length_append, h.len]; rfl
  · intro z hz
    rcases List.mem_append.1 hz with h1 | h1
    · exact h.all z h1
    · exact u8_wf (be4_bytes (adn_bd 1 _) z h1)

set_option maxHeartbeats 16000000 in
set_option maxRecDepth 100000 in
theorem lawSeal (NA : Option Addr) (nn nc : Nat) (names : List (List UInt8)) (EA : Option Addr) (ne ec : Nat) (l : List Ev) (w : World) (hnl : names.length = nn) (hnn : nn ≤ 300) (hN : Strs w NA names) (hsum : (names.map List.length).sum ≤ 1048576)
    (hel : l.length = ne) (hne : ne ≤ 300) (hE : Evs Any w EA l) (hids : ∀ i, i < ne → (l.getD i noEv).ids.length ≤ 300) :
    Calls Tryz.prog 10 #[.slice NA nn nc, .slice EA ne ec] w (GotSome w 2000000) := by
  obtain ⟨i0, hi, hz0, hz1, hz2⟩ := info_parts info5s
  have q63 : maxLen = 9223372036854775807 := rfl
  obtain ⟨F, hF⟩ : ∃ F : Nat → Nat, F = fun k => 5 + k + ((names.take k).map List.length).sum := ⟨_, rfl⟩
  have HF0 := Lib.hid (show F 0 = 5 by rw [hF]; simp)
  have HFS := Lib.hid (show ∀ k, k < nn → F (k + 1) = F k + (1 + (names.getD k []).length) from fun k hk => by
    rw [hF]
    simp only
    have hk2 : k < names.length := by omega
    rw [List.take_succ_eq_append_getElem hk2, List.map_append, List.sum_append]
    have e : names.getD k [] = names[k] := by simp [List.getD, hk2]
    rw [e]
    simp
    omega)
  have HFB := Lib.hid (show ∀ k, k ≤ nn → F k ≤ 1100000 from fun k hk => by
    rw [hF]
    simp only
    have h1 : names.map List.length = (names.take k).map List.length ++ (names.drop k).map List.length := by rw [← List.map_append, List.take_append_drop]
    rw [h1, List.sum_append] at hsum
    omega)
  have HD := Lib.hid hN
  have HL := Lib.hid hnl
  have HEV := Lib.hid hE
  have HEL := Lib.hid hel
  have HIDS := Lib.hid hids
  clear hF hsum hN hnl hE hel hids
  go_enter Tryz.func10, Tryz.ntmps10
  go_wp2
  go_loopw [5, 22] (fun v iv wr => ∃ k : Nat, k ≤ nn ∧ iv = .int .i64 k ∧ OwnB wr w.heap.size v (F k) ∧ Below w.heap.size w wr) (fun _ iv _ => nn - (intOf iv).toNat)
  case atStart =>
    refine ⟨0, Nat.zero_le _, rfl, ?_, (Below.refl _ _).alloc (Nat.le_refl _) _⟩
    rw [HF0.out]
    exact OwnB.lit w w.heap.size [87, 71, 76, 1, (nn : Int) % 256] 5 rfl (by decide) (fun z hz => u8_wf (by simp at hz; omega)) (Nat.le_refl _)
  case round =>
    obtain ⟨k, hk, rfl, hrow, hBr⟩ := hrel
    have hsz := hBr.size
    have hfb := HFB.out k hk
    by_cases hkn : k < nn
    · obtain ⟨b, off, rfl, hcell⟩ := strs_cell (HD.out.below hBr) (k := k) (by rw [HL.out]; exact hkn)
      have HN := Lib.hid (HFS.out k hkn)
      have hfn := HFB.out (k + 1) (by omega)
      rw [HN.out] at hfn
      obtain ⟨sb, hsb⟩ : ∃ sb : ByteArray, (⟨(names.getD k []).toArray⟩ : ByteArray) = sb := ⟨_, rfl⟩
      have hlen : (names.getD k []).length = sb.size := by rw [← hsb]; show _ = (names.getD k []).toArray.size; simp
      rw [hsb] at hcell
      rw [hlen] at HN hfn
      obtain ⟨fl, hfl⟩ : ∃ fl, F k = fl := ⟨_, rfl⟩
      rw [hfl] at hrow HN hfb hfn
      have HROW := Lib.hid hrow
      clear hsb hlen hrow hfl
      go_wp2_with (first
        | (at_builtin; refine wpList_append_bs rfl _ _ 28 9 rfl w.heap.size i0 Tryz.underlying28 Tryz.underlying9 hi hz0 hz1 hz2 _ _ rfl hown2 sb rfl (by omega) hsz3 ?_; intro v4 w4 hown4 hgr4)
        | (at_builtin; refine wpList_append_b rfl _ _ 28 rfl w.heap.size i0 Tryz.underlying28 hi hz0 hz1 hz2 _ _ rfl (HROW.out.alloc _) _ 1 1 [(sb.size : Int) % 256] rfl (Rd.lit wr 5 (0, 0) [(sb.size : Int) % 256] (one_byte (by omega))) (by omega) (le_alloc hsz) ?_; intro v2 w2 hown2 hgr2; have hB2 := (hBr.alloc hsz (.cells #[.int .u8 ((sb.size : Int) % 256)] 5)).grown hgr2 (le_alloc hsz) (fun q hq => (HROW.out.lt q hq).1); have hsz3 := hB2.size))
      go_roundw
      case rel => exact ⟨k + 1, by omega, by go_num, by rw [HN.out, ← Nat.add_assoc]; exact hown4, hB2.grown hgr4 hsz3 (fun q hq => (hown2.lt q hq).1)⟩
      case measure => simp [intOf]; omega
    obtain rfl : k = nn := by omega
    obtain ⟨zs, A2, c2, rfl, hrd, hc2, hm2⟩ := hrow.reads
    obtain ⟨fl, hfl⟩ : ∃ fl, F k = fl := ⟨_, rfl⟩
    rw [hfl] at hrd hfb ⊢
    have FP := Lib.hid (refPutB A2 fl c2 zs wr (by omega) hrd)
    have HB := Lib.hid hBr
    clear hrow hBr hrd hfl HF0 HFS HFB HD HL
    go_wp2_with fail
    refine FP.out.mono ?_
    rintro e w2 ⟨v2, rfl, hown2, hB2⟩
    have HB2 := Lib.hid (HB.out.trans (hB2.mono HB.out.size))
    have HO2 := Lib.hid (hown2.weaken HB.out.size)
    clear hown2 hB2 FP HB hsz
    clear wr
    go_wp2_with fail
    go_loopw [8, 39] (fun v iv wr => ∃ (k n : Nat), k ≤ ne ∧ iv = .int .i64 k ∧ n ≤ 1100010 + 400 * k ∧ OwnB wr w.heap.size v n ∧ Below w.heap.size w wr) (fun _ iv _ => ne - (intOf iv).toNat)
    case atStart => exact ⟨0, fl + 4, Nat.zero_le _, rfl, by omega, HO2.out, HB2.out⟩
    case round =>
      obtain ⟨k, n, hk, rfl, hn, hrow, hBr⟩ := hrel
      have hsz := hBr.size
      by_cases hkn : k < ne
      rotate_left
      · obtain rfl : k = ne := by omega
        obtain ⟨zs, A2, c2, rfl, hrd, hc2, hm2⟩ := hrow.reads
        have HRD := Lib.hid hrd
        clear hrow hrd
        go_wp2_with fail
        go_ret
        exact ⟨zs, A2, n, c2, rfl, HRD.out, hc2, hm2, by omega, hsz, hBr⟩
      obtain ⟨b', off, K, ck, hEq, c0, c1, hokk⟩ := (HEV.out.below hBr).kids (k := k) (by rw [HEL.out]; exact hkn)
      have hid := HIDS.out k hkn
      obtain ⟨ev, hev⟩ : ∃ ev, l.getD k noEv = ev := ⟨_, rfl⟩
      rw [hev] at c0 c1 hokk hid
      obtain ⟨m3, hm3⟩ : ∃ m3, ev.ids.length = m3 := ⟨_, rfl⟩
      rw [hm3] at c1 hid
      have hm3b : (m3 : Int) ≤ 300 := by omega
      obtain ⟨t, ht⟩ : ∃ t, ev.time = t := ⟨_, rfl⟩
      have htb := wf_u64 hokk.1
      rw [ht] at c0 htb
      obtain ⟨ht0, ht1⟩ := htb
      obtain ⟨ids, hids⟩ : ∃ ids, ev.ids = ids := ⟨_, rfl⟩
      have hIR := hokk.2.1
      rw [hm3, hids] at hIR
      have hal := (Below.refl _ wr).alloc (Nat.le_refl _) (.cells #[.int .u64 t, .slice K m3 ck] 38)
      have hx := Blk.new wr #[.int .u64 t, .slice K m3 ck] 38 [.int .u64 t, .slice K m3 ck] rfl
      obtain ⟨w5, hw5⟩ : ∃ w5, wr.alloc (.cells #[.int .u64 t, .slice K m3 ck] 38) = w5 := ⟨_, rfl⟩
      obtain ⟨g5, hg5⟩ : ∃ g5, wr.heap.size = g5 := ⟨_, rfl⟩
      have hgs : w5.heap.size = g5 + 1 := by rw [← hw5, ← hg5]; simp
      rw [hw5] at hal hx
      rw [hg5] at hx
      have hr5 := hrow.below hal
      have HIR := Lib.hid (hIR.below hal)
      have HB5 := Lib.hid (hBr.trans (hal.mono hsz))
      have HX5 := Lib.hid hx
      have HR5 := Lib.hid hr5
      have x1 := hx.cell 1 rfl
      subst hEq
      clear hev hm3 hids ht hokk hid hal hx hrow hBr hr5 hIR hsz
      go_wp2_with fail
      clear c0 c1 hw5 hg5 x1
      clear wr
      go_loopw [12, 53] (fun v iv wr => ∃ (q : Nat) (z : Int), q ≤ 8 ∧ iv = .int .i64 z ∧ z = q ∧ OwnB wr w5.heap.size v (2 + q) ∧ Below w5.heap.size w5 wr) (fun _ iv _ => 8 - (intOf iv).toNat)
      case atStart => exact ⟨0, 0, Nat.zero_le _, rfl, rfl, (show OwnB _ w5.heap.size (.slice (some ⟨g5 + 1, 0, none⟩) 2 2) 2 from by have h7 := OwnB.lit w5 w5.heap.size [(8 + (m3 : Int)) / 256, (8 + (m3 : Int)) % 256] 2 rfl (by decide) (fun z hz => u8_wf (by simp at hz; omega)) (Nat.le_refl _); rw [hgs] at h7 ⊢; exact h7), (Below.refl _ _).alloc (Nat.le_refl _) _⟩
      case round =>
        obtain ⟨q, z, hq, rfl, hzq, hrow, hBr⟩ := hrel
        have hsz := hBr.size
        have e0 := (HX5.out.later hBr).cell 0 rfl
        have e1 := (HX5.out.later hBr).cell 1 rfl
        obtain rfl | rfl | rfl | rfl | rfl | rfl | rfl | rfl | rfl : q = 0 ∨ q = 1 ∨ q = 2 ∨ q = 3 ∨ q = 4 ∨ q = 5 ∨ q = 6 ∨ q = 7 ∨ q = 8 := by omega
        · obtain rfl : z = 0 := hzq
          go_wp2_with (at_builtin; refine wpList_append_b rfl _ _ 28 rfl w5.heap.size i0 Tryz.underlying28 hi hz0 hz1 hz2 _ _ rfl (hrow.alloc _) _ 1 1 [t / 72057594037927936] rfl (Rd.lit wr 5 (0, 0) [t / 72057594037927936] (one_byte (by omega))) (by omega) (le_alloc hsz) ?_; intro v6 w6 hown6 hgr6)
          go_roundw
          case rel => exact ⟨0 + 1, 0 + 1, by omega, by go_num, rfl, hown6, (hBr.alloc hsz _).grown hgr6 (le_alloc hsz) (fun z hz => (hrow.lt z hz).1)⟩
          case measure => simp [intOf]
        · obtain rfl : z = 1 := hzq
          go_wp2_with (at_builtin; refine wpList_append_b rfl _ _ 28 rfl w5.heap.size i0 Tryz.underlying28 hi hz0 hz1 hz2 _ _ rfl (hrow.alloc _) _ 1 1 [t / 281474976710656 % 256] rfl (Rd.lit wr 5 (0, 0) [t / 281474976710656 % 256] (one_byte (by omega))) (by omega) (le_alloc hsz) ?_; intro v6 w6 hown6 hgr6)
          go_roundw
          case rel => exact ⟨1 + 1, 1 + 1, by omega, by go_num, rfl, hown6, (hBr.alloc hsz _).grown hgr6 (le_alloc hsz) (fun z hz => (hrow.lt z hz).1)⟩
          case measure => simp [intOf]
        · obtain rfl : z = 2 := hzq
          go_wp2_with (at_builtin; refine wpList_append_b rfl _ _ 28 rfl w5.heap.size i0 Tryz.underlying28 hi hz0 hz1 hz2 _ _ rfl (hrow.alloc _) _ 1 1 [t / 1099511627776 % 256] rfl (Rd.lit wr 5 (0, 0) [t / 1099511627776 % 256] (one_byte (by omega))) (by omega) (le_alloc hsz) ?_; intro v6 w6 hown6 hgr6)
          go_roundw
          case rel => exact ⟨2 + 1, 2 + 1, by omega, by go_num, rfl, hown6, (hBr.alloc hsz _).grown hgr6 (le_alloc hsz) (fun z hz => (hrow.lt z hz).1)⟩
          case measure => simp [intOf]
        · obtain rfl : z = 3 := hzq
          go_wp2_with (at_builtin; refine wpList_append_b rfl _ _ 28 rfl w5.heap.size i0 Tryz.underlying28 hi hz0 hz1 hz2 _ _ rfl (hrow.alloc _) _ 1 1 [t / 4294967296 % 256] rfl (Rd.lit wr 5 (0, 0) [t / 4294967296 % 256] (one_byte (by omega))) (by omega) (le_alloc hsz) ?_; intro v6 w6 hown6 hgr6)
          go_roundw
          case rel => exact ⟨3 + 1, 3 + 1, by omega, by go_num, rfl, hown6, (hBr.alloc hsz _).grown hgr6 (le_alloc hsz) (fun z hz => (hrow.lt z hz).1)⟩
          case measure => simp [intOf]
        · obtain rfl : z = 4 := hzq
          go_wp2_with (at_builtin; refine wpList_append_b rfl _ _ 28 rfl w5.heap.size i0 Tryz.underlying28 hi hz0 hz1 hz2 _ _ rfl (hrow.alloc _) _ 1 1 [t / 16777216 % 256] rfl (Rd.lit wr 5 (0, 0) [t / 16777216 % 256] (one_byte (by omega))) (by omega) (le_alloc hsz) ?_; intro v6 w6 hown6 hgr6)
          go_roundw
          case rel => exact ⟨4 + 1, 4 + 1, by omega, by go_num, rfl, hown6, (hBr.alloc hsz _).grown hgr6 (le_alloc hsz) (fun z hz => (hrow.lt z hz).1)⟩
          case measure => simp [intOf]
        · obtain rfl : z = 5 := hzq
          go_wp2_with (at_builtin; refine wpList_append_b rfl _ _ 28 rfl w5.heap.size i0 Tryz.underlying28 hi hz0 hz1 hz2 _ _ rfl (hrow.alloc _) _ 1 1 [t / 65536 % 256] rfl (Rd.lit wr 5 (0, 0) [t / 65536 % 256] (one_byte (by omega))) (by omega) (le_alloc hsz) ?_; intro v6 w6 hown6 hgr6)
          go_roundw
          case rel => exact ⟨5 + 1, 5 + 1, by omega, by go_num, rfl, hown6, (hBr.alloc hsz _).grown hgr6 (le_alloc hsz) (fun z hz => (hrow.lt z hz).1)⟩
          case measure => simp [intOf]
        · obtain rfl : z = 6 := hzq
          go_wp2_with (at_builtin; refine wpList_append_b rfl _ _ 28 rfl w5.heap.size i0 Tryz.underlying28 hi hz0 hz1 hz2 _ _ rfl (hrow.alloc _) _ 1 1 [t / 256 % 256] rfl (Rd.lit wr 5 (0, 0) [t / 256 % 256] (one_byte (by omega))) (by omega) (le_alloc hsz) ?_; intro v6 w6 hown6 hgr6)
          go_roundw
          case rel => exact ⟨6 + 1, 6 + 1, by omega, by go_num, rfl, hown6, (hBr.alloc hsz _).grown hgr6 (le_alloc hsz) (fun z hz => (hrow.lt z hz).1)⟩
          case measure => simp [intOf]
        · obtain rfl : z = 7 := hzq
          go_wp2_with (at_builtin; refine wpList_append_b rfl _ _ 28 rfl w5.heap.size i0 Tryz.underlying28 hi hz0 hz1 hz2 _ _ rfl (hrow.alloc _) _ 1 1 [t % 256] rfl (Rd.lit wr 5 (0, 0) [t % 256] (one_byte (by omega))) (by omega) (le_alloc hsz) ?_; intro v6 w6 hown6 hgr6)
          go_roundw
          case rel => exact ⟨7 + 1, 7 + 1, by omega, by go_num, rfl, hown6, (hBr.alloc hsz _).grown hgr6 (le_alloc hsz) (fun z hz => (hrow.lt z hz).1)⟩
          case measure => simp [intOf]
        · obtain rfl : z = 8 := hzq
          have HROW := Lib.hid hrow
          have HBR := Lib.hid hBr
          clear hrow hBr
          obtain ⟨wo, hwo⟩ : ∃ wo, wr = wo := ⟨_, rfl⟩
          subst hwo
          go_wp2_with fail
          clear e0 e1
          go_loopw [12, 71] (fun v iv wq => ∃ q : Nat, q ≤ m3 ∧ iv = .int .i64 q ∧ OwnB wq w5.heap.size v (10 + q) ∧ Below w5.heap.size w5 wq) (fun _ iv _ => m3 - (intOf iv).toNat)
          case atStart => exact ⟨0, Nat.zero_le _, rfl, HROW.out, HBR.out⟩
          case round =>
            clear HROW HBR hsz
            obtain ⟨q, hq', rfl, hrow, hBr⟩ := hrel
            have hsz := hBr.size
            by_cases hqm : q < m3
            · obtain ⟨b3, o3, hk3, hc3⟩ := (HIR.out.below hBr).cell (by omega)
              have x0 := hc3 q hqm
              obtain ⟨y, hy⟩ : ∃ y, ids[q]?.getD 0 = y := ⟨_, rfl⟩
              rw [hy] at x0
              subst hk3
              clear hc3 hy
              go_wp2_with (at_builtin; refine wpList_append_b rfl _ _ 28 rfl w5.heap.size i0 Tryz.underlying28 hi hz0 hz1 hz2 _ _ rfl (hrow.alloc _) _ 1 1 [y % 256] rfl (Rd.lit wr 5 (0, 0) [y % 256] (one_byte (by omega))) (by omega) (le_alloc hsz) ?_; intro v6 w6 hown6 hgr6)
              go_roundw
              case rel => exact ⟨q + 1, by omega, by go_num, by rw [← Nat.add_assoc]; exact hown6, (hBr.alloc hsz _).grown hgr6 (le_alloc hsz) (fun z hz => (hrow.lt z hz).1)⟩
              case measure => simp [intOf]; omega
            obtain rfl : q = m3 := by omega
            obtain ⟨ys, A6, c6, rfl, hrd, hc6, hm6⟩ := hrow.reads
            have FP := Lib.hid (refPutB A6 (10 + q) c6 ys wr (by omega) hrd)
            have HB6 := Lib.hid (HB5.out.trans (hBr.mono HB5.out.size))
            have HR6 := Lib.hid (HR5.out.below hBr)
            clear hrow hrd hBr HR5
            go_wp2_with fail
            refine FP.out.mono ?_
            rintro e w7 ⟨v7, rfl, hown7, hB7⟩
            obtain ⟨rs, A7, c7, rfl, hrd7, hc7, hm7⟩ := hown7.reads
            have HR7 := Lib.hid (HR6.out.below hB7)
            have HB7 := Lib.hid (HB6.out.trans (hB7.mono HB6.out.size))
            have hsz7 := HB7.out.size
            clear hown7 hB7 FP HR6
            go_wp2_with (at_builtin; refine wpList_append_b rfl _ _ 28 rfl w.heap.size i0 Tryz.underlying28 hi hz0 hz1 hz2 _ _ rfl HR7.out _ _ _ rs rfl hrd7 (by omega) hsz7 ?_; intro v8 w8 hown8 hgr8)
            go_roundw
            case rel => exact ⟨k + 1, n + (10 + q + 4), by omega, by go_num, by omega, hown8, HB7.out.grown hgr8 hsz7 (fun z hz => (HR7.out.lt z hz).1)⟩
            case measure => simp [intOf]; omega
end Go.Proofs.YtimbbfneaaglbaaGreat.Log
