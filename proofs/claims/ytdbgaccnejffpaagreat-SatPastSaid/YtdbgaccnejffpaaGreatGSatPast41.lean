/-
  What the law SatPast asks of formulas and traces, plain (stage 15). By an AI agent.
-/
import Derived.Test.YtdbgaccnejffpaaGreatGSatPast37
import Derived.Test.YtdbgaccnejffpaaGreatGSatPast39
import Derived.Test.YtdbgaccnejffpaaGreatGSatPast40
namespace Go.Proofs.YtdbgaccnejffpaaGreat.Sat
open Go.RowKit Go.Proofs.YtdbgaccnejffpaaGreat.Ints Go.Proofs.YtdbgaccnejffpaaGreat.Mem Go.Proofs.YtdbgaccnejffpaaGreat.Src Go.Proofs.YtdbgaccnejffpaaGreat.Paths Go.Proofs.YtdbgaccnejffpaaGreat.Late Go.Proofs.YtdbgaccnejffpaaGreat.Trace

theorem past_formK (b : Bool) (k : Int) : Tree.formKind (pastG b k) = Tree.formKind k := by
 unfold Tree.formKind
 refine decide_eq_decide.2 ?_
 rcases pastG_ways b k with e | e | e | e | e
 · rw [e]
 all_goals omega
theorem past_form {l : List Tree.Nd} (h : Tree.formL l = true) (b : Bool) : Tree.formL (l.map (reKind (pastG b))) = true := by
 rw [twin_form (past_twin b), past_formK]
 unfold Tree.formL at h
 rwa [Bool.and_eq_true] at h
def dropT (t : Tr) (k : Nat) : Tr := ⟨t.names, t.events.drop k⟩
theorem getD_drop (l : List Ev) (k i : Nat) : (l.drop k).getD i noEv = l.getD (k + i) noEv := by
 rw [List.getD_eq_getElem?_getD, List.getD_eq_getElem?_getD, List.getElem?_drop]
theorem getD_take (l : List Ev) (k i : Nat) (h : i < k) : (l.take k).getD i noEv = l.getD i noEv := by
 rw [List.getD_eq_getElem?_getD, List.getD_eq_getElem?_getD, List.getElem?_take, if_pos h]
theorem drop_may {t : Tr} (h : mayT t = true) (k : Nat) : mayT (dropT t k) = true := by
 unfold mayT at *
 rw [Bool.and_eq_true] at *
 refine ⟨h.1, ?_⟩
 have h2 := of_decide_eq_true h.2
 refine decide_eq_true fun i hi => ?_
 have hl : (t.events.drop k).length = t.events.length - k := List.length_drop
 have hi : i < (t.events.drop k).length := hi
 obtain ⟨h3, h4⟩ := h2 (k + i) (by omega)
 unfold EvGood
 show idsOk ((t.events.drop k).getD i noEv).ids _ = true ∧ (0 < i → ((t.events.drop k).getD (i - 1) noEv).time ≤ ((t.events.drop k).getD i noEv).time)
 rw [getD_drop, getD_drop]
 refine ⟨h3, fun h0 => ?_⟩
 have h5 := h4 (by omega)
 rwa [show k + i - 1 = k + (i - 1) by omega] at h5
theorem holds_win {t t' : Tr} (h : mayT t = true) (h' : mayT t' = true) (hn : t'.names = t.names) {i j : Nat} (hi : i < t'.events.length) (hj : j < t.events.length) (he : t'.events.getD i noEv = t.events.getD j noEv) (s : List UInt8) :
   holdsT t' ((i : Nat) : Int) s = holdsT t ((j : Nat) : Int) s := by
 unfold holdsT
 rw [h, h', hn, Int.toNat_natCast, Int.toNat_natCast, he]
 rw [decide_eq_true (show (0 : Int) ≤ (i : Int) ∧ (i : Int) < (t'.events.length : Int) by omega), decide_eq_true (show (0 : Int) ≤ (j : Int) ∧ (j : Int) < (t.events.length : Int) by omega)]
theorem win_tb {t t' : Tr} (h : mayT t = true) (h' : mayT t' = true) (hn : t'.names = t.names) {a : Nat} (ha : t'.events.length + a ≤ t.events.length) (he : ∀ i, i < t'.events.length → t'.events.getD i noEv = t.events.getD (i + a) noEv) {l : List Tree.Nd}
   (hp : a = 0 ∨ free pastK (foOf l)) (hf : t'.events.length + a = t.events.length ∨ free futK (foOf l)) {j : Nat} (hj : j < t'.events.length) : tb t' l j = tb t l (j + a) := by
 rw [Bool.eq_iff_iff, tb_iff, tb_iff]
 refine sem_window (T := tmOf t) (T' := tmOf t') ha (fun lo up x y hxy hy => ?_) (fun s i hi => ?_) (foOf l) hp hf j j hj hj
 · unfold Tm.near tmOf
   show Ival.hasS lo up (((t'.events.getD y noEv).time).toNat - ((t'.events.getD x noEv).time).toNat) = true ↔ Ival.hasS lo up (((t.events.getD (y + a) noEv).time).toNat - ((t.events.getD (x + a) noEv).time).toNat) = true
   rw [he y hy, he x (Nat.lt_of_le_of_lt hxy hy)]
 · have hi : i < t'.events.length := hi
   show holdsT t' _ s = true ↔ holdsT t _ s = true
   rw [holds_win h h' hn hi (show i + a < t.events.length by omega) (he i hi)]
theorem tb_cut {t : Tr} (h : mayT t = true) {k j : Nat} (hk : k ≤ t.events.length) (hj : j < k) (l : List Tree.Nd) : tb (cutT t k) (l.map (reKind (pastG true))) j = tb t (l.map (reKind (pastG true))) j := by
 have e : cutT t k = ⟨t.names, t.events.take k⟩ := by unfold cutT; rw [if_pos h, Int.toNat_natCast]
 have hl : (cutT t k).events.length = k := by rw [e]; show (t.events.take k).length = k; rw [List.length_take]; omega
 refine win_tb (a := 0) h (cut_may t k h) (by rw [e]) (by omega) (fun i hi => ?_) (.inl rfl) (.inr ?_) (by omega)
 · rw [e]
   exact getD_take _ _ _ (by omega)
 · rw [twin_fo (past_twin true)]
   exact (past_free _).1
theorem tb_drop {t : Tr} (h : mayT t = true) {k j : Nat} (hk : k ≤ t.events.length) (hj : j + k < t.events.length) (l : List Tree.Nd) : tb (dropT t k) (l.map (reKind (pastG false))) j = tb t (l.map (reKind (pastG false))) (j + k) := by
 have hl : (dropT t k).events.length = t.events.length - k := List.length_drop
 refine win_tb (a := k) h (drop_may h k) rfl (by omega) (fun i hi => ?_) (.inr ?_) (.inl (by omega)) (by omega)
 · show (t.events.drop k).getD i noEv = _
   rw [getD_drop, Nat.add_comm]
 · rw [twin_fo (past_twin false)]
   exact (past_free _).2
theorem TrOk.drop {S : Nat → Prop} {w : World} {NA EA : Option Addr} {nn nc ne ec : Nat} {t : Tr} (h : TrOk S w NA nn nc EA ne ec t) {k : Nat} (hk : k ≤ ne) : TrOk S w NA nn nc (Mem.fromAddr EA ec k 2) (ne - k) (ec - k) (dropT t k) := by
 refine ⟨h.1, ?_, h.3, h.4, ?_, h.6, by have := h.7; omega⟩
 · show (t.events.drop k).length = _
   rw [List.length_drop, h.2]
 · intro h0
   have h0 : 0 < (t.events.drop k).length := h0
   rw [List.length_drop] at h0
   obtain ⟨b, o, rfl, hc⟩ := h.5 (by omega)
   refine ⟨b, o + 2 * k, ?_, fun j x hx => ?_⟩
   · unfold Mem.fromAddr
     have := h.7.1
     have := h.2
     rw [if_neg (by omega)]
     show some ((⟨b, o, none⟩ : Addr).add (k * 2)) = _
     rw [Addr.add_lit, Nat.mul_comm k 2]
   · have hx : (t.events.drop k)[j]? = some x := hx
     rw [List.getElem?_drop] at hx
     have := hc (k + j) x hx
     rwa [show o + 2 * (k + j) = o + 2 * k + 2 * j by omega] at this
end Go.Proofs.YtdbgaccnejffpaaGreat.Sat
