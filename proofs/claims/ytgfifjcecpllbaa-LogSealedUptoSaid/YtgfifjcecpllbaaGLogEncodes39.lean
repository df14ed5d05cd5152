/-
  What the laws of stage 10 share: the landed log's contracts in the laws' awake; the times of a trace that stands in memory. By an AI agent.
-/
import Derived.Test.YtgfifjcecpllbaaGLogEncodes36
import Derived.Test.YtgfifjcecpllbaaGLogEncodes38
import Derived.Test.YtgfifjcecpllbaaGLogEncodes24
import Derived.Test.YtgfifjcecpllbaaGLogEncodes26
import Derived.Test.YtgfifjcecpllbaaGLogEncodes29
namespace Go.Proofs.Ytgfifjcecpllbaa.Log
open Go.RowKit Go.Proofs.Ytgfifjcecpllbaa.Ints Go.Proofs.Ytgfifjcecpllbaa.Mem Go.Proofs.Ytgfifjcecpllbaa.SumMath Go.Proofs.Ytgfifjcecpllbaa.SumWalks Go.Proofs.Ytgfifjcecpllbaa.Trace Go.Proofs.Ytgfifjcecpllbaa.Record

theorem awakeL (w : World) : Calls Try.prog 14 #[] w fun e w' => e = .returned (.bool true) ∧ Below w.heap.size w w' :=
  lawAwake landEncode landDecode landHead w
theorem tr_times {S : Nat → Prop} {w : World} {NA EA : Option Addr} {nn nc ne ec : Nat} {t : Tr} (h : TrOk S w NA nn nc EA ne ec t) : ∀ e ∈ t.events, 0 ≤ e.time ∧ e.time ≤ 18446744073709551615 := by
  intro e he
  obtain ⟨i, hi, rfl⟩ := List.getElem_of_mem he
  obtain ⟨b, off, -, hc⟩ := h.evs (by omega)
  exact wf_u64 (hc i _ (List.getElem?_eq_getElem hi)).2.1
theorem enc_eq {t : Tr} (h : mayT t = true) : encL t = headL t.names ++ t.events.flatMap recR := by unfold encL; rw [if_pos h]
theorem enc_bytes (t : Tr) : ∀ z ∈ encL t, 0 ≤ z ∧ z ≤ 255 := by
  intro z hz
  unfold encL at hz
  split at hz
  · rename_i hm
    obtain ⟨h1, h2⟩ := (mayT_iff _).1 hm
    have h64 := ((namesOk_iff _).1 h1).1
    rcases List.mem_append.1 hz with h | h
    · exact head_bytes _ z h
    · exact recs_bytes (p := t.names.length) (by omega) (evs_ids h2) z h
  · cases hz
theorem enc_head {t : Tr} (h : mayT t = true) : headD (encL t) 5 = (t.names, (headL t.names).length, 0) := by
  rw [enc_eq h]
  exact head_enc ((mayT_iff t).1 h).1 _ 5
theorem head_le_enc {t : Tr} (h : mayT t = true) : (headL t.names).length ≤ (encL t).length := by
  rw [enc_eq h, List.length_append]
  omega
/-- Of what the laws make. -/
theorem make_enc {start : Int} {ns : List Int} (hz : ∀ z ∈ ns, 0 ≤ z) : (encL (makeM start ns)).length ≤ 6000 := by
  have hm := make_may (start := start) ns hz
  obtain ⟨h1, h2⟩ := (mayT_iff _).1 hm
  have h3 := make_small start ns
  have h4 := head_len h1
  have h5 := recs_len (es := (makeM start ns).events) (fun e he => may_len hm e he)
  rw [enc_eq hm, List.length_append]
  omega
theorem sameSelf (NA : Option Addr) (nn nc : Nat) (EA : Option Addr) (ne ec : Nat) (NB : Option Addr) (mn mc : Nat) (EB : Option Addr) (me mk : Nat) (t : Tr) (w : World)
    (h : TrOk Any w NA nn nc EA ne ec t) (k : TrOk Any w NB mn mc EB me mk t) :
    Calls Try.prog 21 #[.agg #[.slice NA nn nc, .slice EA ne ec], .agg #[.slice NB mn mc, .slice EB me mk]] w fun e w' => e = .returned (.bool true) ∧ Below w.heap.size w w' := by
  have := refSameTrace NA nn nc EA ne ec NB mn mc EB me mk t t w h k
  rw [show decide (t = t) = true from decide_eq_true rfl] at this
  exact this
end Go.Proofs.Ytgfifjcecpllbaa.Log
