/-
  Facts on logs, as plain lists. By an AI agent.
  The laws' awake (stage 12), and the law ScanAny, from contracts of the landed Head and Record. By an AI agent.
  A log that a fault cuts off, as plain lists (for P12.1, P12.2): the header is told just if it stands ahead of the fault, and so is each record. By an AI agent.
-/
import Derived.Test.YtbbjoffknoaoiaaGScanAny31
import Derived.Test.YtbbjoffknoaoiaaGScanAny32
import Derived.Test.YtbbjoffknoaoiaaGScanAny28
import Derived.Test.YtbbjoffknoaoiaaGScanAny34
import Derived.Test.YtbbjoffknoaoiaaGScanAny23
import Derived.Test.YtbbjoffknoaoiaaGScanAny30
import Derived.Test.YtbbjoffknoaoiaaGScanAny20
namespace Go.Proofs.Ytbbjoffknoaoiaa.Log
open Go.RowKit Go.Proofs.Ytbbjoffknoaoiaa.Ints Go.Proofs.Ytbbjoffknoaoiaa.Mem Go.Proofs.Ytbbjoffknoaoiaa.SumMath Go.Proofs.Ytbbjoffknoaoiaa.SumWalks Go.Proofs.Ytbbjoffknoaoiaa.Trace Go.Proofs.Ytbbjoffknoaoiaa.Record

theorem tr_times {S : Nat → Prop} {w : World} {NA EA : Option Addr} {nn nc ne ec : Nat} {t : Tr} (h : TrOk S w NA nn nc EA ne ec t) : ∀ e ∈ t.events, 0 ≤ e.time ∧ e.time ≤ 18446744073709551615 := by
  intro e he
  obtain ⟨i, hi, rfl⟩ := List.getElem_of_mem he
  obtain ⟨b, off, -, hc⟩ := h.evs (by omega)
  exact wf_u64 (hc i _ (List.getElem?_eq_getElem hi)).2.1
theorem enc_eq {t : Tr} (h : mayT t = true) : encL t = headL t.names ++ t.events.flatMap recR := by unfold encL; rw [if_pos h]
theorem enc_bytes (t : Tr) : ∀ z ∈ encL t, 0 ≤ z ∧ z ≤ 255 := by
  intro z hz
  unfold encL at hz
  split at hz
  · rename_i hm
    obtain ⟨h1, h2⟩ := (mayT_iff _).1 hm
    have h64 := ((namesOk_iff _).1 h1).1
    rcases List.mem_append.1 hz with h | h
    · exact head_bytes _ z h
    · exact recs_bytes (p := t.names.length) (by omega) (evs_ids h2) z h
  · cases hz
theorem enc_head {t : Tr} (h : mayT t = true) : headD (encL t) 5 = (t.names, (headL t.names).length, 0) := by
  rw [enc_eq h]
  exact head_enc ((mayT_iff t).1 h).1 _ 5
theorem head_le_enc {t : Tr} (h : mayT t = true) : (headL t.names).length ≤ (encL t).length := by
  rw [enc_eq h, List.length_append]
  omega
/-- Of what the laws make. -/
theorem make_enc {start : Int} {ns : List Int} (hz : ∀ z ∈ ns, 0 ≤ z) : (encL (makeM start ns)).length ≤ 6000 := by
  have hm := make_may (start := start) ns hz
  obtain ⟨h1, h2⟩ := (mayT_iff _).1 hm
  have h3 := make_small start ns
  have h4 := head_len h1
  have h5 := recs_len (es := (makeM start ns).events) (fun e he => may_len hm e he)
  rw [enc_eq hm, List.length_append]
  omega
theorem enc_small {start : Int} {ns : List Int} (hz : ∀ z ∈ ns, 0 ≤ z) : 9 ≤ (encL (makeM start ns)).length ∧ (encL (makeM start ns)).length ≤ 6000 ∧ ∀ z ∈ encL (makeM start ns), 0 ≤ z ∧ z ≤ 255 := by
  have hm := make_may (start := start) ns hz
  obtain ⟨h1, h2⟩ := (mayT_iff _).1 hm
  have h3 := make_small start ns
  have h4 := head_len h1
  have h5 := recs_len (es := (makeM start ns).events) (fun e he => may_len hm e he)
  have h6 := headL_len (makeM start ns).names
  have he : encL (makeM start ns) = headL (makeM start ns).names ++ (makeM start ns).events.flatMap recR := by unfold encL; rw [if_pos hm]
  rw [he, List.length_append]
  refine ⟨by omega, by omega, fun z hz => ?_⟩
  rcases List.mem_append.1 hz with h | h
  · exact head_bytes _ z h
  · exact recs_bytes (p := (makeM start ns).names.length) (by rw [h3.2]; decide) (evs_ids h2) z h
theorem cut_len (b : List Int) (p q x : Nat) : (cutS b p q x).length ≤ b.length := by
  unfold cutS
  split
  · simp
  · rw [List.length_take, List.length_set]; omega
theorem cut_wf {b rs : List Int} (hb : ∀ z ∈ b, 0 ≤ z ∧ z ≤ 255) (hr : ∀ z ∈ rs, (Lit.int .u8 z).wf = true) (p q : Nat) {x : Nat} (hx : x ≤ 255) : ∀ z ∈ cutS b p q x ++ rs, (Lit.int .u8 z).wf = true := by
  intro z hz
  rcases List.mem_append.1 hz with h | h
  · unfold cutS at h
    split at h
    · cases h
    · rename_i h0
      have hlt : p % b.length < b.length := Nat.mod_lt _ (by omega)
      rcases List.mem_or_eq_of_mem_set (List.mem_of_mem_take h) with h1 | rfl
      · exact u8_wf (hb z h1)
      · exact u8_wf (xor_u8 _ (x : Int) (by rw [List.getElem?_eq_getElem hlt]; exact hb _ (List.getElem_mem hlt)) ⟨by omega, by omega⟩).1
  · exact hr z h
end Go.Proofs.Ytbbjoffknoaoiaa.Log

namespace Go.Proofs.Ytbbjoffknoaoiaa.Scan
open Go.RowKit Go.Proofs.Ytbbjoffknoaoiaa.Ints Go.Proofs.Ytbbjoffknoaoiaa.Mem Go.Proofs.Ytbbjoffknoaoiaa.SumMath Go.Proofs.Ytbbjoffknoaoiaa.SumWalks Go.Proofs.Ytbbjoffknoaoiaa.Trace Go.Proofs.Ytbbjoffknoaoiaa.Record Go.Proofs.Ytbbjoffknoaoiaa.Log Go.Proofs.Ytbbjoffknoaoiaa.Src

def T0 : Tr := ⟨[[112]], [⟨7, [0]⟩]⟩
theorem t0_len : (encL T0).length = 26 := by decide +kernel
theorem t0_may : mayT T0 = true := by decide +kernel
theorem t0_head : headF (encL T0) 26 = ([[112]], 11, 0) := by
  have h := enc_head t0_may
  have e : (encL T0).take 26 = encL T0 := List.take_of_length_le (by rw [t0_len]; exact Nat.le_refl _)
  unfold headF
  rw [t0_len, if_neg (by decide), e, h]
  decide +kernel
theorem t0_err : scanE (encL T0) 26 11 1 = 0 := by decide +kernel
theorem t0_time : (scanV (encL T0) 26 11 1).time = 7 := by decide +kernel
set_option maxHeartbeats 8000000 in
set_option maxRecDepth 100000 in
theorem lawAwake {M : Nat} (hM : 1000 ≤ M) (LR : RecC M) (LH : HeadC M) (w : World) : Calls Try.prog 9 #[] w fun e w' => e = .returned (.bool true) ∧ Below w.heap.size w w' := by
  have q63 : maxLen = 9223372036854775807 := rfl
  obtain ⟨w1, hw1⟩ : ∃ w1, w.alloc (.cells #[.string { data := #[112] }] 9) = w1 := ⟨_, rfl⟩
  have hs1 : w1.heap.size = w.heap.size + 1 := by rw [← hw1]; simp
  have hb1 : Below w.heap.size w w1 := by rw [← hw1]; exact (Below.refl _ _).alloc (Nat.le_refl _) _
  have hn1 : Strs w1 (some ⟨w.heap.size, 0, none⟩) [[112]] := fun _ => ⟨w.heap.size, 0, rfl, fun j s hs => by
    rcases j with _ | j
    · simp at hs
      subst hs
      rw [← hw1]
      exact box_cell 0 _ rfl
    · simp at hs⟩
  obtain ⟨w2, hw2⟩ : ∃ w2, w1.alloc (.cells #[.int .i64 0] 3) = w2 := ⟨_, rfl⟩
  have hs2 : w2.heap.size = w.heap.size + 2 := by rw [← hw2]; simp; omega
  have hb2 : Below w.heap.size w w2 := by rw [← hw2]; exact hb1.alloc hb1.size _
  have hn2 : Strs w2 (some ⟨w.heap.size, 0, none⟩) [[112]] := by rw [← hw2]; exact hn1.below ((Below.refl _ _).alloc (Nat.le_refl _) _)
  have hi2 : Rd .i64 w2 (some ⟨w.heap.size + 1, 0, none⟩) 1 [0] := by rw [← hw2, ← hs1]; exact Rd.lit w1 3 (0, 0) [0] (by decide)
  obtain ⟨w3, hw3⟩ : ∃ w3, w2.alloc (.cells #[.int .u64 7, .slice (some ⟨w.heap.size + 1, 0, none⟩) 1 1] 38) = w3 := ⟨_, rfl⟩
  have hal3 : Below w2.heap.size w2 w3 := by rw [← hw3]; exact (Below.refl _ _).alloc (Nat.le_refl _) _
  have hb3 : Below w.heap.size w w3 := hb2.trans (hal3.mono hb2.size)
  have hx3 : Blk w3 (w.heap.size + 2) [.int .u64 7, .slice (some ⟨w.heap.size + 1, 0, none⟩) 1 1] := by rw [← hw3, ← hs2]; exact Blk.new _ _ _ _ rfl
  have hT : TrOk Any w3 (some ⟨w.heap.size, 0, none⟩) 1 1 (some ⟨w.heap.size + 2, 0, none⟩) 1 1 T0 := by
    refine ⟨rfl, rfl, hn2.below hal3, (fun s hs => ?_), (fun _ => ⟨w.heap.size + 2, 0, rfl, fun j e he => ?_⟩), ⟨Nat.le_refl _, by decide⟩, ⟨Nat.le_refl _, by decide⟩⟩
    · have hs' : s = [112] := by simpa [T0] using hs
      rw [hs']; decide
    · rcases j with _ | j
      · have he' : e = ⟨7, [0]⟩ := by simpa [T0] using he.symm
        subst he'
        exact ⟨hx3.cell 0 rfl, (by decide), _, 1, hx3.cell 1 rfl, hi2.below hal3, Nat.le_refl _, by decide, trivial, fun _ _ _ => trivial⟩
      · simp [T0] at he
  have HE := Lib.hid (landEncode (some ⟨w.heap.size, 0, none⟩) 1 1 (some ⟨w.heap.size + 2, 0, none⟩) 1 1 T0 w3 hT (by decide))
  have HB3 := Lib.hid hb3
  have HLH := Lib.hid (fun S g W hs => LH S g (encL T0) [1, 2] 26 0 W hs (by decide) (by rw [t0_len]; omega))
  have HLR := Lib.hid (fun S g N W hs hN => LR S g (encL T0) [1, 2] 26 N 11 1 W hs hN ⟨by decide, by decide⟩ (by rw [t0_len]; omega))
  unfold GotHeadS at HLH
  unfold GotRecS at HLR
  rw [t0_head] at HLH
  rw [t0_err, t0_time] at HLR
  rw [t0_len] at HLH HLR
  have HWF := Lib.hid (u8_all (enc_bytes T0))
  have HT0 := Lib.hid t0_len
  clear hn1 hb1 hn2 hb2 hi2 hal3 hb3 hx3 hT LR LH
  go_enter Try.func9, Try.ntmps9
  go_wp2_with fail
  clear hw1 hs1 hw2 hs2 hw3
  refine HE.out.mono ?_
  rintro e w4 hmade
  obtain ⟨A, c, rfl, hrd, hnc, hcm, -, -, hB4⟩ := made_slice hmade HWF.out
  rw [HT0.out] at hrd hnc ⊢
  have hb4 := HB3.out.trans (hB4.mono HB3.out.size)
  have hal := hb4.alloc hb4.size (.cells #[.int .i64 1, .int .i64 2] 3)
  have HN := Lib.hid (landNew A 26 c (encL T0) (some ⟨w4.heap.size, 0, none⟩) 2 2 [1, 2] (-1) (w4.alloc (.cells #[.int .i64 1, .int .i64 2] 3)) hnc hcm (hrd.alloc _) (Rd.lit w4 3 (0, 0) [1, 2] (by decide)) (by decide) (by decide))
  have HAL := Lib.hid hal
  clear hmade hrd hB4 hb4 hal HE HB3
  go_wp2_with fail
  refine HN.out.mono ?_
  rintro e w5 ⟨g, rfl, hS0, hgL, hB5⟩
  obtain ⟨S, hS1⟩ : ∃ S, LSrc S w5 g (encL T0) [1, 2] 26 0 := ⟨_, hS0⟩
  have hgw : w.heap.size ≤ g := by have := HAL.out.size; omega
  have HB5 := Lib.hid (HAL.out.trans (hB5.mono HAL.out.size))
  have HH := Lib.hid (HLH.out S g w5 hS1)
  clear hS0 hS1 hB5 hgL HN HAL HLH
  go_wp2_with fail
  refine HH.out.mono ?_
  rintro e w6 ⟨L, lc, N6, rfl, -, hs6, hN6, hgr6⟩
  have HB6 := Lib.hid (HB5.out.trans (below_grown hgr6 HB5.out.size hgw))
  have HR := Lib.hid (HLR.out S g N6 w6 hs6 (by omega))
  clear hs6 hgr6 HH HB5 HLR
  go_wp2_with fail
  refine HR.out.mono ?_
  rintro e w7 ⟨K, kc, N7, rfl, -, -, -, hgr7, -⟩
  have HB7 := Lib.hid (HB6.out.trans (below_grown hgr7 HB6.out.size hgw))
  have hal := HB7.out.alloc HB7.out.size (.cells #[.int .u64 7, .slice K (scanV (encL T0) 26 11 1).ids.length kc] 38)
  have HB8 := Lib.hid hal
  clear hgr7 hal HR HB6
  go_wp2_with fail
  go_ret
  exact ⟨rfl, HB8.out⟩

set_option maxHeartbeats 4000000 in
set_option maxRecDepth 100000 in
theorem lawAny {M : Nat} (hM : 1000 ≤ M) (LR : RecC M) (LH : HeadC M) (A : Option Addr) (n c : Nat) (b : List Int) (B : Option Addr) (m d : Nat) (sc : List Int) (fault p props : Int) (w : World) (hnc : n ≤ c) (hc : c ≤ maxLen) (h : Rd .u8 w A n b) (hs : Rd .i64 w B m sc) (hn : n ≤ 140737488351232) (hm : m * 8 ≤ 140737488351232) (hnM : n ≤ M) (hp : small64 p) :
    Calls Try.prog 3 #[.slice A n c, .slice B m d, .int .i64 fault, .int .i64 p, .int .i64 props] w fun e w' => e = .returned (.bool true) ∧ Below w.heap.size w w' := by
  have HS := Lib.hid (lawScanned LR LH A n c b B m d sc fault p props w hnc hc h hs (by omega) hm hnM hp)
  have HA := Lib.hid (fun W => lawAwake hM LR LH W)
  clear LR LH h hs
  go_enter Try.func3, Try.ntmps3
  go_wp2_with fail
  refine HS.out.mono ?_
  rintro e w1 ⟨rfl, hB1⟩
  have HB1 := Lib.hid hB1
  clear hB1
  go_wp2_with fail
  refine (HA.out w1).mono ?_
  rintro e w2 ⟨rfl, hB2⟩
  go_wp2
  go_ret
  exact ⟨rfl, HB1.out.trans (hB2.mono HB1.out.size)⟩
end Go.Proofs.Ytbbjoffknoaoiaa.Scan

namespace Go.Proofs.Ytbbjoffknoaoiaa.Scan
open Go.Proofs.Ytbbjoffknoaoiaa.Ints Go.Proofs.Ytbbjoffknoaoiaa.SumMath Go.Proofs.Ytbbjoffknoaoiaa.SumWalks Go.Proofs.Ytbbjoffknoaoiaa.Trace Go.Proofs.Ytbbjoffknoaoiaa.Record Go.Proofs.Ytbbjoffknoaoiaa.Log
open Go.Proofs.Ytbbjoffknoaoiaa.Lex (nameS)

theorem byte_take {b : List Int} {k p : Nat} (h : p < k) : byteAt (b.take k) p = byteAt b p := by unfold byteAt; rw [List.getElem?_take_of_lt h]
/-- Names that are right, cut off at a place. -/
theorem names_cut {b : List Int} {k : Nat} (hk : k ≤ b.length) : ∀ (cnt p : Nat) (acc : List (List UInt8)), (∀ s ∈ acc, nameS s = true) → acc.Nodup → p ≤ k → (namesD b 5 cnt p acc).2.2 = 0 →
    namesD (b.take k) 10 cnt p acc = if (namesD b 5 cnt p acc).2.1 ≤ k then namesD b 5 cnt p acc else ([], 0, 10) := by
  have hlen : (b.take k).length = k := by rw [List.length_take]; omega
  intro cnt
  induction cnt with
  | zero =>
    intro p acc _ _ hp _
    rw [namesD_zero, namesD_zero, if_pos hp]
  | succ cnt ih =>
    intro p acc ha hn hp h
    by_cases e1 : b.length ≤ p
    · rw [namesD_end cnt e1] at h
      exact absurd h (by decide)
    by_cases e2 : byteAt b p < 1 ∨ 16 < byteAt b p
    · rw [namesD_len cnt e1 e2] at h
      exact absurd h (by decide)
    by_cases e3 : b.length < p + 1 + byteAt b p
    · rw [namesD_short cnt e1 e2 e3] at h
      exact absurd h (by decide)
    obtain ⟨s, hs⟩ : ∃ s, toU ((b.drop (p + 1)).take (byteAt b p)) = s := ⟨_, rfl⟩
    by_cases e4 : nameS s = false ∨ s ∈ acc
    · rw [namesD_none cnt e1 e2 e3 hs e4] at h
      exact absurd h (by decide)
    have e5 : nameS s = true := by
      rcases hh : nameS s
      · exact absurd (Or.inl hh) e4
      · rfl
    have e6 : s ∉ acc := fun hh => e4 (Or.inr hh)
    rw [namesD_next cnt e1 e2 e3 hs e5 e6] at h ⊢
    have ha2 : ∀ x ∈ acc ++ [s], nameS x = true := fun x hx => (List.mem_append.1 hx).elim (ha x) (fun h => by rw [List.mem_singleton.1 h]; exact e5)
    have hn2 : (acc ++ [s]).Nodup := List.nodup_append.2 ⟨hn, by simp, fun x hx y hy => by rw [List.mem_singleton.1 hy]; exact fun e => e6 (e ▸ hx)⟩
    have hP := ((namesD_inv (b := b) (miss := 5) (by decide) cnt (p + 1 + byteAt b p) (acc ++ [s]) ha2 hn2).1 h).1
    by_cases hpk : k ≤ p
    · rw [namesD_end cnt (by rw [hlen]; exact hpk), if_neg (by omega)]
    have hb := byte_take (b := b) (show p < k by omega)
    by_cases hsh : k < p + 1 + byteAt b p
    · rw [namesD_short cnt (by rw [hlen]; exact hpk) (by rw [hb]; exact e2) (by rw [hlen, hb]; exact hsh), if_neg (by omega)]
    have hs2 : toU (((b.take k).drop (p + 1)).take (byteAt (b.take k) p)) = s := by
      rw [hb, List.drop_take, List.take_take, Nat.min_eq_left (by omega)]
      exact hs
    have hnx := namesD_next (b := b.take k) (miss := 10) cnt (by rw [hlen]; exact hpk) (by rw [hb]; exact e2) (by rw [hlen, hb]; exact hsh) hs2 e5 e6
    rw [hnx, hb]
    exact ih _ _ ha2 hn2 (by omega) h
/-- A header that is right, cut off at a place, by a fault. -/
theorem head_cut10 {b : List Int} {k : Nat} (hk : k < b.length) (h : (headD b 5).2.2 = 0) : headD (b.take k) 10 = if (headD b 5).2.1 ≤ k then headD b 5 else ([], 0, 10) := by
  obtain ⟨g1, g2, g3, g4, g5, g6, g7⟩ := headD_ok (by decide) h
  have hlen : (b.take k).length = k := by rw [List.length_take]; omega
  have hP := ((namesD_inv (b := b) (miss := 5) (by decide) (byteAt b 4) 5 [] (fun s hs => by cases hs) List.nodup_nil).1 g4).1
  obtain ⟨P, hPe⟩ : ∃ P, (namesD b 5 (byteAt b 4) 5 []).2.1 = P := ⟨_, rfl⟩
  rw [g7]
  rw [hPe] at hP g5 g6 ⊢
  show headD (b.take k) 10 = if P + 4 ≤ k then _ else _
  by_cases h5 : k < 5
  · rw [if_neg (by omega)]
    unfold headD
    rw [if_pos (by omega)]
  have hb4 := byte_take (b := b) (show 4 < k by omega)
  have ht4 : (b.take k).take 4 = [87, 71, 76, 1] := by rw [List.take_take, Nat.min_eq_left (by omega)]; exact g2
  have hnc := names_cut (k := k) (by omega) (byteAt b 4) 5 [] (fun s hs => by cases hs) List.nodup_nil (by omega) g4
  have hhd : headD (b.take k) 10 = lastD (b.take k) 10 (namesD (b.take k) 10 (byteAt b 4) 5 []) := by
    unfold headD
    rw [if_neg (by omega), if_neg (fun e => e.elim (fun e => e ht4) (fun e => by rw [hb4] at e; omega)), hb4]
  rw [hhd, hnc, hPe]
  by_cases hPk : P ≤ k
  · rw [if_pos hPk]
    unfold lastD
    rw [if_neg (by rw [g4]; exact fun h => h rfl), hPe, hlen]
    by_cases h4 : k < P + 4
    · rw [if_pos h4, if_neg (by omega)]
    · rw [if_neg h4, List.take_take, Nat.min_eq_left (by omega), if_neg (by rw [g6]; decide), if_pos (by omega)]
  · rw [if_neg hPk, if_neg (by omega)]
    rfl
/-- The header's error by a fault. -/
theorem head_fault {t : Tr} (h : mayT t = true) {k : Nat} (hk : k < (encL t).length) : headD ((encL t).take k) 10 = if (headL t.names).length ≤ k then (t.names, (headL t.names).length, 0) else ([], 0, 10) := by
  obtain ⟨h1, h2⟩ := (mayT_iff t).1 h
  have he : encL t = headL t.names ++ t.events.flatMap recR := by unfold encL; rw [if_pos h]
  have hd : headD (encL t) 5 = (t.names, (headL t.names).length, 0) := by rw [he]; exact head_enc h1 _ 5
  rw [head_cut10 hk (by rw [hd]), hd]
/-- A record that is right stands ahead of the fault, or is told by the fault. -/
theorem rec_cut {b : List Int} (hb : ∀ z ∈ b, 0 ≤ z ∧ z ≤ 255) {p f : Nat} {props : Int} (hp : 0 ≤ props ∧ props ≤ 64) (h : errR (b.drop p) (propsR props) = 0) (_hpl : p ≤ b.length) (hf : f ≤ b.length) :
    errR (restB b f p) (propsR props) = (if p + (lenR (b.drop p) + 6) ≤ f then 0 else if f ≤ p then 13 else 7) ∧ (p + (lenR (b.drop p) + 6) ≤ f → getE (restB b f p) props = getE (b.drop p) props ∧ getN (restB b f p) props = getN (b.drop p) props) := by
  obtain ⟨g1, g2, g3, g4⟩ := get_ok h
  have hby : ∀ z ∈ b.drop p, 0 ≤ z ∧ z ≤ 255 := fun z hz => hb z (List.mem_of_mem_drop hz)
  have hi := (err_zero h).2.2
  have hpg := (put_get (p := props) hby h).2
  rw [g1, g2] at hpg
  unfold putR at hpg
  rw [if_pos (ids_wide (props_bd props).2 hi), List.nil_append] at hpg
  obtain ⟨e, he⟩ : ∃ e, evR (b.drop p) = e := ⟨_, rfl⟩
  obtain ⟨L, hL⟩ : ∃ L, lenR (b.drop p) + 6 = L := ⟨_, rfl⟩
  rw [he, hL] at hpg
  rw [hL] at g3 g4 ⊢
  rw [he] at hi
  have hsp : b.drop p = recR e ++ (b.drop p).drop L := by rw [hpg, List.take_append_drop]
  have hrl : (recR e).length = L := by rw [hpg, List.length_take]; omega
  have hq : propsR props = props := by unfold propsR; omega
  have hrest : restB b f p = (b.drop p).take (f - p) := by
    unfold restB
    rw [Int.toNat_natCast]
    by_cases hpf : p ≤ f
    · rw [Nat.min_eq_left hpf, List.drop_take]
    · rw [Nat.min_eq_right (by omega), show f - p = 0 by omega, List.take_zero]
      exact List.drop_of_length_le (by rw [List.length_take]; omega)
  rw [hrest]
  by_cases hc : p + L ≤ f
  · rw [if_pos hc]
    have ht := ev_time hby
    have hr2 : (b.drop p).take (f - p) = recR e ++ ((b.drop p).drop L).take (f - p - L) := by
      conv => lhs; rw [hsp]
      rw [List.take_append, List.take_of_length_le (by omega), hrl]
    rw [he] at ht
    obtain ⟨k1, k2, k3⟩ := rec_get hp (by rw [← hq]; exact hi) ht.1 ht.2 (((b.drop p).drop L).take (f - p - L))
    rw [← hr2] at k1 k2 k3
    have k4 := get_ok k1
    refine ⟨k1, fun _ => ⟨?_, ?_⟩⟩
    · rw [k4.1, g1, k2, he]
    · rw [k4.2.1, g2, k3]
      have := rec_len e
      omega
  · rw [if_neg hc]
    refine ⟨?_, fun h => absurd h hc⟩
    have hr2 : (b.drop p).take (f - p) = (recR e).take (f - p) := by
      conv => lhs; rw [hsp]
      rw [List.take_append_of_le_length (by omega)]
    rw [hr2, front_errp hp (by rw [← hq]; exact hi) (by omega)]
    by_cases h0 : f ≤ p
    · rw [if_pos h0, if_pos (by omega)]
    · rw [if_neg h0, if_neg (by omega)]
end Go.Proofs.Ytbbjoffknoaoiaa.Scan
