/-
  The walk of the law LogSpoilt (stage 10). By an AI agent.
  A drawn region taken by hand: what is asked behind each operation may grow on the way, by what a call has laid. By an AI agent.
-/
import Derived.Test.YtgfifjcecpllbaaGLogEncodes24
import Derived.Test.YtgfifjcecpllbaaGLogEncodes25
import Derived.Test.YtgfifjcecpllbaaGLogEncodes26
import Derived.Test.YtgfifjcecpllbaaGLogEncodes29
import Derived.Deep.RegionHeld3
namespace Go.Proofs.Ytgfifjcecpllbaa.Log
open Go.RowKit Go.Proofs.Ytgfifjcecpllbaa.Ints Go.Proofs.Ytgfifjcecpllbaa.Mem Go.Proofs.Ytgfifjcecpllbaa.SumMath Go.Proofs.Ytgfifjcecpllbaa.SumWalks Go.Proofs.Ytgfifjcecpllbaa.Trace Go.Proofs.Ytgfifjcecpllbaa.Record

theorem enc_small {start : Int} {ns : List Int} (hz : ∀ z ∈ ns, 0 ≤ z) : 9 ≤ (encL (makeM start ns)).length ∧ (encL (makeM start ns)).length ≤ 6000 ∧ ∀ z ∈ encL (makeM start ns), 0 ≤ z ∧ z ≤ 255 := by
  have hm := make_may (start := start) ns hz
  obtain ⟨h1, h2⟩ := (mayT_iff _).1 hm
  have h3 := make_small start ns
  have h4 := head_len h1
  have h5 := recs_len (es := (makeM start ns).events) (fun e he => may_len hm e he)
  have h6 := headL_len (makeM start ns).names
  have he : encL (makeM start ns) = headL (makeM start ns).names ++ (makeM start ns).events.flatMap recR := by unfold encL; rw [if_pos hm]
  rw [he, List.length_append]
  refine ⟨by omega, by omega, fun z hz => ?_⟩
  rcases List.mem_append.1 hz with h | h
  · exact head_bytes _ z h
  · exact recs_bytes (p := (makeM start ns).names.length) (by rw [h3.2]; decide) (evs_ids h2) z h
theorem cut_len (b : List Int) (p q x : Nat) : (cutS b p q x).length ≤ b.length := by
  unfold cutS
  split
  · simp
  · rw [List.length_take, List.length_set]; omega
theorem cut_wf {b rs : List Int} (hb : ∀ z ∈ b, 0 ≤ z ∧ z ≤ 255) (hr : ∀ z ∈ rs, (Lit.int .u8 z).wf = true) (p q : Nat) {x : Nat} (hx : x ≤ 255) : ∀ z ∈ cutS b p q x ++ rs, (Lit.int .u8 z).wf = true := by
  intro z hz
  rcases List.mem_append.1 hz with h | h
  · unfold cutS at h
    split at h
    · cases h
    · rename_i h0
      have hlt : p % b.length < b.length := Nat.mod_lt _ (by omega)
      rcases List.mem_or_eq_of_mem_set (List.mem_of_mem_take h) with h1 | rfl
      · exact u8_wf (hb z h1)
      · exact u8_wf (xor_u8 _ (x : Int) (by rw [List.getElem?_eq_getElem hlt]; exact hb _ (List.getElem_mem hlt)) ⟨by omega, by omega⟩).1
  · exact hr z h
set_option maxHeartbeats 8000000 in
set_option maxRecDepth 100000 in
theorem lawSpoilt (LE : ∀ (NA : Option Addr) (nn nc : Nat) (EA : Option Addr) (ne ec : Nat) (t : Tr) (w : World), TrOk Any w NA nn nc EA ne ec t → ne ≤ 1048576 → Calls Try.prog 12 #[.agg #[.slice NA nn nc, .slice EA ne ec]] w (GotBytes w (encL t)))
    (LD : ∀ (A : Option Addr) (n c : Nat) (zs : List Int) (w : World), n ≤ c → c ≤ maxLen → n ≤ 58000000 → Rd .u8 w A n zs → Calls Try.prog 19 #[.slice A n c] w (GotDec w zs))
    (LH : ∀ (A : Option Addr) (n c : Nat) (zs : List Int) (w : World), n ≤ c → c ≤ maxLen → n ≤ 58000000 → Rd .u8 w A n zs → Calls Try.prog 20 #[.slice A n c] w (GotHead w zs 5))
    (start : Int) (N : Option Addr) (k kc : Nat) (ns : List Int) (p q x : Nat) (R : Option Addr) (l d : Nat) (rs : List Int) (w : World) (hs : 0 ≤ start ∧ start ≤ 18446744073709551615) (hN : Rd .u16 w N k ns) (hk : k ≤ maxLen) (hnn : ∀ z ∈ ns, 0 ≤ z)
    (hp : p ≤ 65535) (hq : q ≤ 65535) (hx : x ≤ 255) (hl : l ≤ 1048576) (hR : Rd .u8 w R l rs) :
    Calls Try.prog 5 #[.int .u64 start, .slice N k kc, .int .u16 (p : Int), .int .u16 (q : Int), .int .u8 (x : Int), .slice R l d] w fun e w' => e = .returned (.bool true) ∧ Below w.heap.size w w' := by
  have q63 : maxLen = 9223372036854775807 := rfl
  have HM := Lib.hid (lawMake start N k kc ns w hs hN hk)
  obtain ⟨e1, e2, e3⟩ := enc_small (start := start) hnn
  have e4 := (make_small start ns).1
  obtain ⟨T, hT⟩ : ∃ T, makeM start ns = T := ⟨_, rfl⟩
  rw [hT] at HM e1 e2 e3 e4
  have hle := @LE
  obtain ⟨b, hb⟩ : ∃ b, encL T = b := ⟨_, rfl⟩
  have HE := Lib.hid (fun NA nn nc EA ne ec W (h : TrOk Any W NA nn nc EA ne ec T) => LE NA nn nc EA ne ec T W h (by rw [← h.elen]; omega))
  rw [hb] at HE e1 e2 e3
  have HA := Lib.hid (fun W => lawAwake LE LD LH W)
  have HRE := Lib.hid (lawRead LD LH)
  have HBY := Lib.hid e3
  obtain ⟨n, hn⟩ : ∃ n, b.length = n := ⟨_, rfl⟩
  rw [hn] at e1 e2
  have HLN := Lib.hid hn
  have HR := Lib.hid hR
  have hn1 : (0 : Int) < (n : Int) := by omega
  clear LE LD LH hle hT hb e3 hn hR hN
  go_enter Try.func5, Try.ntmps5
  go_wp2_with fail
  refine HM.out.mono ?_
  rintro e w1 ⟨NA, nn, nc, EA, ne, ec, rfl, hok, hB1⟩
  have FE := HE.out NA nn nc EA ne ec w1 hok
  have HFE := Lib.hid FE
  have HB1 := Lib.hid hB1
  clear FE hB1 hok HM
  go_wp2_with fail
  refine HFE.out.mono ?_
  rintro e w2 hmade
  obtain ⟨A, c, rfl, hrd, hnc, hcm, -, -, hB2⟩ := made_slice hmade (u8_all HBY.out)
  rw [HLN.out] at hrd hnc
  have hnl := HLN.out
  rw [hnl]
  have HB2 := Lib.hid (HB1.out.trans (hB2.mono HB1.out.size))
  have HRD := Lib.hid hrd
  have HSP := Lib.hid (fun W (hb : Below w2.heap.size w2 W) (R : Option Addr) (l d : Nat) (rs : List Int) (p q x : Nat) hp hq hx hl hr => lawSpoil A n c b p q x R l d rs W hp hq hx hnc (by omega) (hrd.below hb) hl hr)
  clear hmade hB2 hrd HFE hnl
  go_wp2_with fail
  refine (HSP.out w2 (Below.refl _ _) R l d rs p q x hp hq hx (by omega) (HR.out.below HB2.out)).mono ?_
  rintro e w3 hmade
  obtain ⟨A3, c3, rfl, hrd3, hnc3, hcm3, -, -, hB3⟩ := made_slice hmade (cut_wf HBY.out HR.out.all p q hx)
  have HL3 := Lib.hid (show (cutS b p q x ++ rs).length ≤ 58000000 by rw [List.length_append]; have := cut_len b p q x; have := HR.out.len; have := HLN.out; omega)
  have HB3 := Lib.hid hB3
  have HQ3 := Lib.hid hrd3
  obtain ⟨n3, hn3⟩ : ∃ n3, (cutS b p q x ++ rs).length = n3 := ⟨_, rfl⟩
  rw [hn3] at HL3 HQ3 hnc3 ⊢
  clear hmade hrd3 hB3 hn3
  go_wp2_with fail
  refine (HRE.out A3 n3 c3 _ w3 hnc3 hcm3 HL3.out HQ3.out).mono ?_
  rintro e w4 ⟨rfl, hB4⟩
  have HB4 := Lib.hid (HB3.out.trans (hB4.mono HB3.out.size))
  clear hB4 HQ3 HL3 HB3
  go_wp2_with fail
  refine (HSP.out w4 HB4.out none 0 0 [] p 0 x hp (by omega) hx (by omega) (Rd.nil _ _ _)).mono ?_
  rintro e w5 hmade
  obtain ⟨A5, c5, rfl, hrd5, hnc5, hcm5, -, -, hB5⟩ := made_slice hmade (cut_wf HBY.out (fun z h => by cases h) p 0 hx)
  have HL5 := Lib.hid (show (cutS b p 0 x ++ []).length ≤ 58000000 by rw [List.append_nil]; have := cut_len b p 0 x; have := HLN.out; omega)
  have HB5 := Lib.hid (HB4.out.trans (hB5.mono HB4.out.size))
  have HQ5 := Lib.hid hrd5
  obtain ⟨n5, hn5⟩ : ∃ n5, (cutS b p 0 x ++ []).length = n5 := ⟨_, rfl⟩
  rw [hn5] at HL5 HQ5 hnc5 ⊢
  clear hmade hrd5 hB5 hn5
  go_wp2_with fail
  refine (HRE.out A5 n5 c5 _ w5 hnc5 hcm5 HL5.out HQ5.out).mono ?_
  rintro e w6 ⟨rfl, hB6⟩
  have HB6 := Lib.hid (HB5.out.trans (hB6.mono HB5.out.size))
  clear hB6 HQ5 HL5 HB5
  go_wp2_with fail
  refine (HSP.out w6 HB6.out none 0 0 [] 0 q 0 (by omega) hq (by omega) (by omega) (Rd.nil _ _ _)).mono ?_
  rintro e w7 hmade
  obtain ⟨A7, c7, rfl, hrd7, hnc7, hcm7, -, -, hB7⟩ := made_slice hmade (cut_wf HBY.out (fun z h => by cases h) 0 q (Nat.zero_le _))
  have HL7 := Lib.hid (show (cutS b 0 q 0 ++ []).length ≤ 58000000 by rw [List.append_nil]; have := cut_len b 0 q 0; have := HLN.out; omega)
  have HB7 := Lib.hid (HB6.out.trans (hB7.mono HB6.out.size))
  have HQ7 := Lib.hid hrd7
  obtain ⟨n7, hn7⟩ : ∃ n7, (cutS b 0 q 0 ++ []).length = n7 := ⟨_, rfl⟩
  rw [hn7] at HL7 HQ7 hnc7 ⊢
  clear hmade hrd7 hB7 hn7
  go_wp2_with fail
  refine (HRE.out A7 n7 c7 _ w7 hnc7 hcm7 HL7.out HQ7.out).mono ?_
  rintro e w8 ⟨rfl, hB8⟩
  have HB8 := Lib.hid (HB7.out.trans (hB8.mono HB7.out.size))
  clear hB8 HQ7 HL7 HB7
  go_wp2_with fail
  refine (HA.out w8).mono ?_
  rintro e w9 ⟨rfl, hB9⟩
  have HB9 := Lib.hid (HB8.out.trans (hB9.mono HB8.out.size))
  clear hB9
  go_wp2_with fail
  go_ret
  exact ⟨rfl, HB2.out.trans (HB9.out.mono HB2.out.size)⟩
end Go.Proofs.Ytgfifjcecpllbaa.Log

namespace Go.Proofs.Ytgfifjcecpllbaa.Held
open Go
variable {P : Program} {ops : Array Oper} {Q : Exit → Act → World → Prop} {md : Region.Mode} {S S' : World → Prop}

theorem mono (h : ∀ W, S' W → S W) : ∀ (fuel : Nat) (listed : Array Bool) (a : Act) (w : World), wpAnyH P md ops Q S' fuel listed a w → wpAnyH P md ops Q S fuel listed a w
  | 0, _, _, _, H => H
  | fuel + 1, _, _, _, H => ⟨H.1, fun i hi => wpOp_mono (fun a' w' h' => ⟨h _ h'.1, mono h fuel _ a' w' h'.2⟩) (H.2 i hi)⟩
/-- From here on S' is asked, which says more, and holds now. -/
theorem more {fuel : Nat} {listed : Array Bool} {a : Act} {w : World} (S' : World → Prop) (h : ∀ W, S' W → S W) (hS : S' w) (H : S' w → wpAnyH P md ops Q S' fuel listed a w) : wpAnyH P md ops Q S fuel listed a w :=
  mono h fuel listed a w (H hS)
end Go.Proofs.Ytgfifjcecpllbaa.Held
