/-
  The walks of the landed package trace: own, first; clones. By an AI agent.
  The walks of the landed package trace: Cut, Add. By an AI agent.
  What the law SatPast asks of formulas and traces, plain (stage 15). By an AI agent.
  What the law SatShift asks of traces, plain: all times as much later (stage 15). By an AI agent.
  The walk of the law's Copy (stage 8): a trace of its own, each event's ids in a row of their own. One thing in such a trace changed. By an AI agent.
  One thing in a trace of one's own changed: what it then reads as (stage 8). By an AI agent.
  The times of a made trace are bounded. By an AI agent.
-/
import Derived.Test.YtdbgaccnejffpaaGSatShift18
import Derived.Test.YtdbgaccnejffpaaGSatShift36
import Derived.Test.YtdbgaccnejffpaaGSatShift1
import Derived.Deep.AppendLies
import Derived.Test.YtdbgaccnejffpaaGSatShift35
namespace Go.Proofs.Ytdbgaccnejffpaa.Trace
open Go.RowKit Go.Proofs.Ytdbgaccnejffpaa.Ints Go.Proofs.Ytdbgaccnejffpaa.Mem
theorem infoStr : (Try.prog.info? 9).map (fun i => (i.zero, i.size, i.bytes)) = some (some (.string { data := #[] }), 1, 16) := by kernel_rfl
abbrev wF0 (w : World) (NA : Option Addr) (nn nc : Nat) (EA : Option Addr) (ne ec : Nat) : World := (boxT w NA nn nc EA ne ec).alloc (.cells #[.slice none 0 0, .slice none 0 0] 27)
theorem wF0_size (w : World) (NA : Option Addr) (nn nc : Nat) (EA : Option Addr) (ne ec : Nat) : (wF0 w NA nn nc EA ne ec).heap.size = w.heap.size + 2 := by simp [wF0, boxT]
theorem wF0_below {w W : World} {NA : Option Addr} {nn nc : Nat} {EA : Option Addr} {ne ec : Nat} (hb : Below (w.heap.size + 2) (wF0 w NA nn nc EA ne ec) W) : Below w.heap.size w W :=
 (((Below.refl _ w).alloc (Nat.le_refl _) _).alloc (by simp) _).trans (hb.mono (by omega))
theorem wF0_boxes {w W : World} {NA : Option Addr} {nn nc : Nat} {EA : Option Addr} {ne ec : Nat} (hb : Below (w.heap.size + 2) (wF0 w NA nn nc EA ne ec) W) :
  Blk W w.heap.size [.slice NA nn nc, .slice EA ne ec] ∧ Blk W (w.heap.size + 1) [.slice none 0 0, .slice none 0 0] := by
 have h0 := (Blk.new w #[.slice NA nn nc, .slice EA ne ec] 27 _ rfl).alloc (.cells #[.slice none 0 0, .slice none 0 0] 27)
 have h1 := Blk.new (boxT w NA nn nc EA ne ec) #[.slice none 0 0, .slice none 0 0] 27 _ rfl
 have e : (boxT w NA nn nc EA ne ec).heap.size = w.heap.size + 1 := by simp [boxT]
 rw [e] at h1
 exact ⟨h0.below hb (by omega), h1.below hb (by omega)⟩
end Go.Proofs.Ytdbgaccnejffpaa.Trace

namespace Go.Proofs.Ytdbgaccnejffpaa.Trace
open Go.RowKit Go.Proofs.Ytdbgaccnejffpaa.Ints Go.Proofs.Ytdbgaccnejffpaa.Mem
theorem row_other {W : World} {base : Nat} {e : TypeId} {size : Nat} {v : Value} {n : Nat} {xs : List Value} {g k : Nat} {u : Value} (h : W.ownsRow base e size v n xs) (hne : v.ownBlock ≠ some g) : (W.setCell ⟨g, k, none⟩ u).ownsRow base e size v n xs :=
 h.kept (row := some g) ⟨rfl, rfl, rfl, by simp, fun i _ hne => Below.heap_setCell W ⟨g, k, none⟩ u i (fun e => hne (by rw [e]))⟩ (.inr hne)
end Go.Proofs.Ytdbgaccnejffpaa.Trace

namespace Go.Proofs.Ytdbgaccnejffpaa.Sat
open Go.RowKit Go.Proofs.Ytdbgaccnejffpaa.Ints Go.Proofs.Ytdbgaccnejffpaa.Mem Go.Proofs.Ytdbgaccnejffpaa.Src Go.Proofs.Ytdbgaccnejffpaa.Paths Go.Proofs.Ytdbgaccnejffpaa.Late Go.Proofs.Ytdbgaccnejffpaa.Trace
end Go.Proofs.Ytdbgaccnejffpaa.Sat

namespace Go.Proofs.Ytdbgaccnejffpaa.Sat
open Go.RowKit Go.Proofs.Ytdbgaccnejffpaa.Ints Go.Proofs.Ytdbgaccnejffpaa.Mem Go.Proofs.Ytdbgaccnejffpaa.Src Go.Proofs.Ytdbgaccnejffpaa.Paths Go.Proofs.Ytdbgaccnejffpaa.Late Go.Proofs.Ytdbgaccnejffpaa.Trace
def laterE (d : Int) (e : Ev) : Ev := ⟨e.time + d, e.ids⟩
def laterT (t : Tr) (d : Int) : Tr := ⟨t.names, t.events.map (laterE d)⟩
theorem later_getD (l : List Ev) (d : Int) {i : Nat} (hi : i < l.length) : (l.map (laterE d)).getD i noEv = laterE d (l.getD i noEv) := by
 rw [List.getD_eq_getElem?_getD, List.getD_eq_getElem?_getD, List.getElem?_map, List.getElem?_eq_getElem hi]
 rfl
theorem later_may {t : Tr} (h : mayT t = true) (d : Int) : mayT (laterT t d) = true := by
 unfold mayT at *
 rw [Bool.and_eq_true] at *
 refine ⟨h.1, ?_⟩
 have h2 := of_decide_eq_true h.2
 refine decide_eq_true fun i hi => ?_
 have hl : (t.events.map (laterE d)).length = t.events.length := List.length_map ..
 have hi : i < (t.events.map (laterE d)).length := hi
 obtain ⟨h3, h4⟩ := h2 i (by omega)
 unfold EvGood
 show idsOk ((t.events.map (laterE d)).getD i noEv).ids _ = true ∧ (0 < i → ((t.events.map (laterE d)).getD (i - 1) noEv).time ≤ ((t.events.map (laterE d)).getD i noEv).time)
 rw [later_getD _ _ (by omega)]
 refine ⟨h3, fun h0 => ?_⟩
 rw [later_getD _ _ (by omega)]
 have h5 := h4 h0
 show (t.events.getD (i - 1) noEv).time + d ≤ (t.events.getD i noEv).time + d
 omega
theorem tb_later {t : Tr} (h : mayT t = true) {d : Int} (hd : 0 ≤ d) (h0 : ∀ i, i < t.events.length → 0 ≤ (t.events.getD i noEv).time) {j : Nat} (hj : j < t.events.length) (l : List Tree.Nd) : tb (laterT t d) l j = tb t l j := by
 have hl : (t.events.map (laterE d)).length = t.events.length := List.length_map ..
 rw [Bool.eq_iff_iff, tb_iff, tb_iff]
 refine sem_window (T := tmOf t) (T' := tmOf (laterT t d)) (a := 0) (by show (t.events.map (laterE d)).length + 0 ≤ t.events.length; omega) (fun lo up x y hxy hy => ?_) (fun s i hi => ?_) (foOf l) (.inl rfl) (.inl (by show (t.events.map (laterE d)).length + 0 = t.events.length; omega)) j j (by show j < (t.events.map (laterE d)).length; omega) (by show j < (t.events.map (laterE d)).length; omega)
 ·have hy : y < (t.events.map (laterE d)).length := hy
  unfold Tm.near tmOf
  show Ival.hasS lo up ((((t.events.map (laterE d)).getD y noEv).time).toNat - (((t.events.map (laterE d)).getD x noEv).time).toNat) = true ↔ Ival.hasS lo up (((t.events.getD y noEv).time).toNat - ((t.events.getD x noEv).time).toNat) = true
  rw [later_getD _ _ (by omega), later_getD _ _ (by omega)]
  have e1 := h0 y (by omega)
  have e2 := h0 x (by omega)
  have e3 : ((laterE d (t.events.getD y noEv)).time).toNat - ((laterE d (t.events.getD x noEv)).time).toNat = ((t.events.getD y noEv).time).toNat - ((t.events.getD x noEv).time).toNat := by
   show ((t.events.getD y noEv).time + d).toNat - ((t.events.getD x noEv).time + d).toNat = _
   omega
  rw [e3]
 ·have hi : i < (t.events.map (laterE d)).length := hi
  show holdsT (laterT t d) ((i : Nat) : Int) s = true ↔ holdsT t ((i + 0 : Nat) : Int) s = true
  unfold holdsT
  rw [h, later_may h d]
  show (true && (decide ((0 : Int) ≤ (i : Int) ∧ (i : Int) < ((t.events.map (laterE d)).length : Int)) && (decide (s ∈ t.names) && decide (((t.names.idxOf s : Nat) : Int) ∈ ((t.events.map (laterE d)).getD ((i : Nat) : Int).toNat noEv).ids)))) = true ↔ _
  rw [hl, Int.toNat_natCast, later_getD _ _ (by omega), Nat.add_zero, Int.toNat_natCast]
  exact Iff.rfl
end Go.Proofs.Ytdbgaccnejffpaa.Sat

namespace Go.Proofs.Ytdbgaccnejffpaa.Trace
open Go.RowKit Go.Proofs.Ytdbgaccnejffpaa.Ints Go.Proofs.Ytdbgaccnejffpaa.Mem
def kb (s : SEv) : Option Nat := s.2.1.map (·.block)
theorem kb_own (K : Option Addr) (n c : Nat) : (Value.slice K n c).ownBlock = K.map (·.block) := by cases K <;> rfl
def KidRow (w : World) (base : Nat) (s : SEv) : Prop := w.ownsRow base 3 1 (.slice s.2.1 s.1.ids.length s.2.2) s.1.ids.length (s.1.ids.map (Value.int .i64))
theorem KidRow.lt {w : World} {base : Nat} {s : SEv} (h : KidRow w base s) {q : Nat} (hq : kb s = some q) : base ≤ q ∧ q < w.heap.size := World.ownsRow.lt h q (by rw [kb_own]; exact hq)
theorem KidRow.below {w w' : World} {base : Nat} {s : SEv} (h : KidRow w base s) (hb : Below w.heap.size w w') : KidRow w' base s := below_row h hb
def KidsOwn (w : World) (base : Nat) (v : Value) (σ : List SEv) : Prop := ∀ s ∈ σ, KidRow w base s ∧ (kb s = none ∨ kb s ≠ v.ownBlock)
def Sep (σ : List SEv) : Prop := σ.Pairwise fun s t => kb s = none ∨ kb s ≠ kb t
theorem KidsOwn.below {w w' : World} {base : Nat} {v : Value} {σ : List SEv} (h : KidsOwn w base v σ) (hb : Below w.heap.size w w') : KidsOwn w' base v σ := fun s hs => ⟨(h s hs).1.below hb, (h s hs).2⟩
theorem KidsOwn.snoc {w w3 : World} {base : Nat} {v v' : Value} {σ : List SEv} {sn : SEv} (h : KidsOwn w base v σ) (hn : KidRow w base sn) (hne : kb sn = none ∨ kb sn ≠ v.ownBlock) (hg : w.grownBy w3 v.ownBlock) (hat : v'.ownBlock = v.ownBlock ∨ v'.ownBlock = some w.heap.size) : KidsOwn w3 base v' (σ ++ [sn]) := by
 have key : ∀ s, KidRow w base s → (kb s = none ∨ kb s ≠ v.ownBlock) → KidRow w3 base s ∧ (kb s = none ∨ kb s ≠ v'.ownBlock) := fun s h1 h2 => by
  refine ⟨World.ownsRow.kept h1 hg (by rw [kb_own]; exact h2), ?_⟩
  cases hk : kb s with
  | none => exact Or.inl rfl
  | some g =>
   refine Or.inr fun e => ?_
   rw [hk] at h2
   rcases hat with e2 | e2
   ·rcases h2 with h2 | h2
    ·cases h2
    ·exact h2 (e.trans e2)
   ·have := (h1.lt hk).2
    rw [e2] at e
    injection e with e
    omega
 intro s hs
 rcases List.mem_append.1 hs with hs | hs
 ·exact key s (h s hs).1 (h s hs).2
 ·rw [List.mem_singleton.1 hs]; exact key sn hn hne
theorem Sep.snoc {w : World} {base : Nat} {v : Value} {σ : List SEv} {sn : SEv} (h : Sep σ) (hk : KidsOwn w base v σ) (hn : ∀ q, kb sn = some q → w.heap.size ≤ q) : Sep (σ ++ [sn]) := by
 unfold Sep
 rw [List.pairwise_append]
 refine ⟨h, by simp, fun s hs t ht => ?_⟩
 rw [List.mem_singleton.1 ht]
 cases hkb : kb s with
 | none => exact Or.inl rfl
 | some g =>
  refine Or.inr fun e => ?_
  have := ((hk s hs).1.lt hkb).2
  have := hn g e.symm
  omega
structure Rows (B : Nat) (w' : World) (t : Tr) (g : Nat) (vN v : Value) (σ : List SEv) : Prop where
 names : w'.ownsRow B 9 1 vN t.names.length (t.names.map strS)
 nlt : ∀ b, vN.ownBlock = some b → b < g
 evs : OwnEvs (fun b => g < b) w' (g + 1) v σ
 map : σ.map (·.1) = t.events
 kids : KidsOwn w' (g + 1) v σ
 sep : Sep σ
def GotCopy (w : World) (t : Tr) (e : Ending) (w' : World) : Prop :=
 ∃ g vN v σ, e = .returned (.agg #[vN, v]) ∧ w.heap.size + 2 ≤ g ∧ Rows (w.heap.size + 2) w' t g vN v σ ∧ Below w.heap.size w w'
theorem step_append_ints {P : Program} {w : World} {ops : Array Oper} {o : Oper} {a : Act} {K : Act → World → Prop} {Q : Exit → Act → World → Prop} {E : Prop} (hgd : o.guard = none) (s x : Operand) (t : TypeId)
  (ho : o.op = .call { callee := .builtin .append, args := #[s, x], argTypes := #[t, t] }) (k : IntKind) (base : Nat) (e : TypeId) (i : TypeInfo) (bytes : Nat)
  (ht : P.underlying t = some (.slice e)) (hi : P.info? e = some i) (hz : i.zero = some (.int k 0)) (hsize : i.size = 1) (hby : i.bytes = bytes)
  (v : Value) (n : Nat) (zs : List Int) (hs : a.eval s = v) (hown : w.ownsRow base e 1 v n (zs.map (Value.int k)))
  (A : Option Addr) (m c : Nat) (ys : List Int) (hx : a.eval x = .slice A m c) (hr : Rd k w A m ys)
  (h63 : n + m ≤ maxLen) (hbytes : (n + m) * bytes ≤ 140737488355328) (hbase : base ≤ w.heap.size)
  (h : ∀ v' w', w'.ownsRow base e 1 v' (n + m) ((zs ++ ys).map (Value.int k)) → w.grownBy w' v.ownBlock → K (a.put o.dst v') w') :
  if Region.wanted o (yielded ops a.tmps) = true then Oper.wp P o a w K Q else E := by
 have hw : Region.wanted o (yielded ops a.tmps) = true := by simp [Region.wanted, hgd]
 rw [if_pos hw]
 obtain ⟨v', w', hrun, h1, h2⟩ := run_append_ints (P := P) k base t o.type e i bytes ht hi hz hsize hby v n zs hown A m c ys hr h63 hbytes hbase
 unfold Oper.wp
 simp [execOp, ho, resolve, invoke, builtin, hs, hx, hrun, Result.andThen]
 exact h v' w' h1 h2
set_option maxHeartbeats 16000000 in
set_option maxRecDepth 100000 in
theorem lawCopy (NA : Option Addr) (nn nc : Nat) (EA : Option Addr) (ne ec : Nat) (t : Tr) (w : World) (h : TrOk Any w NA nn nc EA ne ec t) (hn0 : 0 < nn) (hs : TrSmall t) :
  Calls Try.prog 7 #[.agg #[.slice NA nn nc, .slice EA ne ec]] w (GotCopy w t) := by
 obtain ⟨iE, hiE, hz0, hz1, hz2⟩ := info_parts infoEvent
 obtain ⟨iS, hiS, hy0, hy1, hy2⟩ := info_parts infoStr
 obtain ⟨iI, hiI, hx0, hx1, hx2⟩ := info_parts infoInt
 have hnn : nn ≤ 1048576 := by rw [← h.nlen]; exact hs.names
 have hne : ne ≤ 1048576 := by rw [← h.elen]; exact hs.events
 have hnei : (ne : Int) ≤ 1048576 := by omega
 obtain ⟨b, off, e, hc⟩ := h.names (by rw [h.nlen]; exact hn0)
 subst e
 have HD := Lib.hid h
 have HID := Lib.hid hs.ids
 have HC := Lib.hid hc
 have HNN := Lib.hid hnn
 have HNE := Lib.hid hne
 have hnl := h.nlen
 have hel := h.elen
 have HNL := Lib.hid hnl
 have HEL := Lib.hid hel
 clear h hs hn0 hc hnn hne hnl hel
 go_enter Try.func7, Try.ntmps7
 obtain ⟨t0, t1⟩ := boxT_at (Below.refl (w.heap.size + 1) (boxT w (some ⟨b, off, none⟩) nn nc EA ne ec))
 have hsz0 := wF0_size w (some ⟨b, off, none⟩) nn nc EA ne ec
 have hmade := World.ownsRow_made (base := w.heap.size + 2) (e := 9) (size := 1) (wF0 w (some ⟨b, off, none⟩) nn nc EA ne ec) #[] 0 (by rw [hsz0]; exact Nat.le_refl _) (by decide) rfl
 rw [hsz0] at hmade
 have HMADE := Lib.hid hmade
 have hnews : ∀ j u, (t.names.map strS)[j]? = some u → ((wF0 w (some ⟨b, off, none⟩) nn nc EA ne ec).alloc (.cells #[] 9)).cell? ((⟨b, off, none⟩ : Addr).add j) = some u := fun j u hu => by
  rw [List.getElem?_map] at hu
  obtain ⟨s, hs, rfl⟩ := Option.map_eq_some_iff.1 hu
  have h1 := HC.out j s hs
  have h2 : (⟨b, off, none⟩ : Addr).add j = ⟨b, off + j, none⟩ := by unfold Addr.add; split <;> simp_all
  rw [h2]
  exact Lib.cell?_alloc_marked _ (Lib.cell?_alloc_marked _ (Lib.cell?_alloc_marked _ h1))
 have HNEWS := Lib.hid hnews
 have HSZ0 := Lib.hid hsz0
 clear hmade hnews hsz0
 go_wp2_with (at_builtin; refine wpList_append_own_at _ rfl (.tmp 6) (.tmp 8) 24 rfl (w.heap.size + 2) 9 iS _ 1 16 Try.underlying24 hiS hy0 hy1 hy2 rfl (by decide) _ 0 [] (by rfl) HMADE.out ⟨b, off, none⟩ nn nc (t.names.map strS) (by rfl) (by rw [List.length_map, HNL.out, Nat.mul_one]) HNEWS.out (fun u hu => by obtain ⟨s, -, rfl⟩ := List.mem_map.1 hu; rfl) (by have := HNN.out; have : maxLen = 9223372036854775807 := rfl; omega) (by have := HNN.out; omega) (Nat.le_trans (Nat.le_of_eq HSZ0.out.symm) (size_one _ _)) ?_; intro vN w1 own1 gr1 nil1 at1; rw [Nat.zero_add, List.nil_append] at own1; obtain ⟨NN, cN, rfl, -⟩ := own_sliceN own1; have HO1 := Lib.hid own1; have hB1 : Below (w.heap.size + 2) (wF0 w (some ⟨b, off, none⟩) nn nc EA ne ec) w1 := ((Below.refl (w.heap.size + 2) (wF0 w (some ⟨b, off, none⟩) nn nc EA ne ec)).alloc (Nat.le_of_eq HSZ0.out.symm) _).grown gr1 (Nat.le_trans (Nat.le_of_eq HSZ0.out.symm) (size_one _ _)) (fun g hg => by injection hg with hg; dsimp only at hg; omega); have HB1 := Lib.hid hB1; have u1 := fun o => ((wF0_boxes hB1).1.alloc o).cell 1 rfl; clear own1 gr1 nil1 at1 hB1)
 clear t0 t1 u1 HMADE HNEWS
 have HS1 := Lib.hid (show w.heap.size + 2 ≤ w1.heap.size by have := HB1.out.size; rw [HSZ0.out] at this; exact this)
 obtain ⟨g, hg⟩ : ∃ g, w1.heap.size = g := ⟨_, rfl⟩
 have HG := Lib.hid hg
 rw [hg]
 go_loopw [14] (fun i wr => ∃ (k : Nat) (v : Value) (σ : List SEv), k ≤ ne ∧ i = .int .i64 k ∧ Hid (OwnEvs (fun b => g < b) wr (g + 1) v σ ∧ σ.map (·.1) = t.events.take k ∧ KidsOwn wr (g + 1) v σ ∧ Sep σ ∧ Blk wr g [.slice NN nn cN, v] ∧ Below g w1 wr)) (fun i _ => ne - (intOf i).toNat)
 case atStart => exact ⟨0, .slice none 0 0, [], Nat.zero_le _, rfl, OwnEvs.nil _ _ _, rfl, fun s hs => by simp at hs, List.Pairwise.nil, by
  have := Blk.new w1 #[.slice NN nn cN, .slice none 0 0] 27 _ rfl
  rw [hg] at this
  exact this, (Below.refl _ _).alloc (by rw [hg]; exact Nat.le_refl _) _⟩
 case round =>
  obtain ⟨k, v, σ, hk, rfl, HR⟩ := hrel
  clear hg
  have hw : Below w.heap.size w wr := (wF0_below HB1.out).trans (HR.out.2.2.2.2.2.mono (by have := HS1.out; have := HG.out; omega))
  by_cases hkn : k < ne
  ·have hkn' : (k : Int) < (ne : Int) := by omega
   have hk0 : (0 : Int) ≤ (k : Int) := by omega
   have hlen : k < t.events.length := by have := HEL.out; omega
   obtain ⟨b2, off2, K, c, e, x0, x1, hx⟩ := (HD.out.evs.below hw).kids hlen
   have hid := HID.out (t.events.getD k noEv) (by simp [List.getD, hlen])
   have hnext : t.events.take (k + 1) = t.events.take k ++ [t.events.getD k noEv] := by
    rw [List.take_succ_eq_append_getElem hlen]
    simp [List.getD, hlen]
   obtain ⟨x, hxe⟩ : ∃ x, t.events.getD k noEv = x := ⟨_, rfl⟩
   rw [hxe] at x0 x1 hx hid hnext
   have HNX := Lib.hid hnext
   have HX := Lib.hid hx
   have HI := Lib.hid hid
   obtain ⟨tm, htm⟩ : ∃ tm, x.time = tm := ⟨_, rfl⟩
   obtain ⟨q, hq⟩ : ∃ q, x.ids.length = q := ⟨_, rfl⟩
   rw [htm] at x0
   rw [hq] at x1
   have HTM := Lib.hid htm
   have HQ := Lib.hid hq
   have HKN := Lib.hid hkn
   subst e
   clear hlen hid hnext hxe hx htm hq hkn hw
   go_wp2
   clear x0 x1
   obtain ⟨V, hV⟩ : ∃ V, V = (wr.alloc (.cells #[.int .u64 tm, .slice K q c] 34)).drew := ⟨_, rfl⟩
   have hVa : Below wr.heap.size wr V := by rw [hV]; exact ((Below.refl _ wr).alloc (Nat.le_refl _) _).drew
   have HROW := Lib.hid (And.intro (HR.out.1.below hVa) HR.out.2.1)
   have HKO := Lib.hid (And.intro (HR.out.2.2.1.below hVa) HR.out.2.2.2.1)
   have HBK := Lib.hid (HR.out.2.2.2.2.1.later hVa)
   have HBX := Lib.hid (show Blk V wr.heap.size [.int .u64 tm, .slice K q c] by rw [hV]; exact Blk.new wr #[.int .u64 tm, .slice K q c] 34 _ rfl)
   have HBW := Lib.hid (HR.out.2.2.2.2.2.trans (hVa.mono (by have := HR.out.2.2.2.2.1.1; omega)))
   have HXV := Lib.hid (HX.out.below hVa)
   have HGL := Lib.hid HR.out.2.2.2.2.1.1
   refine Late.drew [10] (S := fun W => W.cell? ⟨g, 1, none⟩ = some v ∧ W.cell? ⟨wr.heap.size, 0, none⟩ = some (.int .u64 tm) ∧ W.cell? ⟨wr.heap.size, 1, none⟩ = some (.slice K q c)) (by kernel_rfl) (by rw [← hV]; exact ⟨HBK.out.cell 1 rfl, HBX.out.cell 0 rfl, HBX.out.cell 1 rfl⟩) (fun hHeld => ?_)
   rw [← hV] at hHeld ⊢
   clear hV HR hVa
   refine ltOp 0 hHeld ?_
   refine ltOp 1 hHeld ?_
   refine ltOp 2 hHeld ?_
   refine ltOp 3 hHeld ?_
   refine ltOp 5 hHeld ?_
   refine ltOp 6 hHeld ?_
   have bk4 := HBK.out.alloc (.cells #[] 3)
   have bx4 := HBX.out.alloc (.cells #[] 3)
   refine ltCall 4 (fun Kt hKt => ?_)
   go_simp
   refine hKt.out _ _ ?_ (fun hT => ?_)
   ·(exact ⟨bk4.cell 1 rfl, bx4.cell 0 rfl, bx4.cell 1 rfl⟩)
   clear hKt Kt hHeld
   have hHeld := hT
   clear hT
   try simp only [Act.put, tkA, tkB, tkC]
   have hgV := HBK.out.1
   have hxV := HBX.out.1
   have hsp := HBW.out.size
   have hmade := World.ownsRow_made (base := V.heap.size) (e := 3) (size := 1) V #[] 0 (Nat.le_refl _) (by decide) rfl
   have hq31 : q ≤ 1048576 := by rw [← HQ.out]; exact HI.out
   refine ltCall 7 (fun Kt hKt => ?_)
   (refine step_append_ints rfl (.tmp 22) (.tmp 24) 32 rfl .i64 V.heap.size 3 iI 8 Try.underlying32 hiI hx0 hx1 hx2 (.slice (some ⟨V.heap.size, 0, none⟩) 0 0) 0 [] (by rfl) (by simpa using hmade) K q c x.ids (by rfl) (by rw [← HQ.out]; exact HXV.out.2.1.alloc _) (by have : maxLen = 9223372036854775807 := rfl; omega) (by omega) (size_one _ _) ?_; intro v7 W7 own7 gr7; rw [Nat.zero_add, List.nil_append] at own7; obtain ⟨K7, c7, rfl, hk71, hk72, -, hk74⟩ := own_slice own7; have bk7 := bk4.grown gr7 (fun e => by injection e with e; dsimp only at e; omega); have bx7 := bx4.grown gr7 (fun e => by injection e with e; dsimp only at e; omega))
   refine hKt.out _ _ ?_ (fun hT => ?_)
   ·(exact ⟨bk7.cell 1 rfl, bx7.cell 0 rfl, bx7.cell 1 rfl⟩)
   clear hKt Kt hHeld
   have hHeld := hT
   clear hT
   try simp only [Act.put, tkA, tkB, tkC]
   have hb7 : Below V.heap.size V W7 := ((Below.refl V.heap.size V).alloc (Nat.le_refl _) _).grown gr7 (size_one _ _) (fun z hz => by injection hz with hz; dsimp only at hz; omega)
   refine ltOp 8 hHeld ?_
   have bk9 := bk7.alloc (.cells #[.int .u64 tm, .slice K7 q c7] 34)
   have bx9 := bx7.alloc (.cells #[.int .u64 tm, .slice K7 q c7] 34)
   refine ltCall 9 (fun Kt hKt => ?_)
   go_simp
   refine hKt.out _ _ ?_ (fun hT => ?_)
   ·(exact ⟨bk9.cell 1 rfl, bx9.cell 0 rfl, bx9.cell 1 rfl⟩)
   clear hKt Kt hHeld
   have hHeld := hT
   clear hT
   try simp only [Act.put, tkA, tkB, tkC]
   have hb7s := hb7.size
   have hlt := HROW.out.1.1.lt
   have hall : Below W7.heap.size W7 (W7.alloc (.cells #[.int .u64 tm, .slice K7 q c7] 34)) := (Below.refl _ _).alloc (Nat.le_refl _) _
   have hrd7 : Rd .i64 W7 K7 x.ids.length x.ids := by rw [HQ.out]; exact Rd.own own7 HXV.out.2.1.all
   have hblk : (W7.alloc (.cells #[.int .u64 tm, .slice K7 q c7] 34)).heap[W7.heap.size]? = some (.cells (cellsS (x, K7, c7)).toArray 34 (0, 0)) := by
    show _ = some (Obj.cells #[.int .u64 x.time, .slice K7 x.ids.length c7] 34 (0, 0))
    rw [HTM.out, HQ.out]
    exact heap_alloc_new W7 _
   have ki : KidOk (fun b => g < b ∧ some b ≠ v.ownBlock) (W7.alloc (.cells #[.int .u64 tm, .slice K7 q c7] 34)) (x, K7, c7) :=
    ⟨⟨HXV.out.1, hrd7.alloc _, by show x.ids.length ≤ c7; rw [HQ.out]; exact hk71, hk72⟩, fun a e _ => ⟨by have := (hk74 a e).1; omega, fun e2 => by have := (hlt _ e2.symm).2; have := (hk74 a e).1; omega⟩⟩
   have hkr : KidRow (W7.alloc (.cells #[.int .u64 tm, .slice K7 q c7] 34)) (g + 1) (x, K7, c7) := by
    refine Mem.own_weaken (base := V.heap.size) ?_ (by omega)
    show World.ownsRow _ _ _ _ (.slice K7 x.ids.length c7) x.ids.length (x.ids.map (Value.int .i64))
    rw [HQ.out]
    exact own7.alloc _
   have hkn : ∀ z, kb (x, K7, c7) = some z → V.heap.size ≤ z := fun z hz => by
    obtain ⟨a, ha, rfl⟩ := Option.map_eq_some_iff.1 hz
    exact (hk74 a ha).1
   have hσ : σ.length ≤ 1048576 := by
    have h1 := congrArg List.length HROW.out.2
    rw [List.length_map, List.length_take] at h1
    have := HKN.out
    have := HNE.out
    omega
   refine ltLast 10 (fun Kt hKt => ?_)
   (refine step_append_ev rfl (.tmp 19) (.tmp 27) 25 rfl (g + 1) iE _ Try.underlying25 hiE hz0 hz1 hz2 rfl _ _ (by rfl) (fun b => g < b) ((HROW.out.1.below hb7).below hall) (x, K7, c7) ki W7.heap.size 34 (0, 0) hblk (by rfl) (by omega) (Nat.le_trans (by omega) (size_one _ _)) ?_; intro v10 W10 own10 gr10 at10)
   refine hKt.out _ _ trivial (fun hT => ?_)
   clear hKt Kt hHeld
   have hHeld := hT
   clear hT
   try simp only [Act.put, tkA, tkB, tkC]
   have bk10 := bk9.grown gr10 (fun e => by have := (hlt _ e.symm).1; omega)
   have hko := KidsOwn.snoc ((HKO.out.1.below hb7).below hall) hkr (by
    cases hz : kb (x, K7, c7) with
    | none => exact .inl rfl
    | some z => exact .inr fun e => by have := hkn z hz; have := (hlt z e.symm).2; omega) gr10 at10
   have hsep := Sep.snoc HKO.out.2 HKO.out.1 hkn
   obtain ⟨A10, c10, ev10, -⟩ := own_sliceN own10.1
   obtain ⟨n10, hn10⟩ : ∃ n10, (σ ++ [(x, K7, c7)]).length = n10 := ⟨_, rfl⟩
   rw [hn10] at ev10
   subst ev10
   have c101 := bk10.cell 1 rfl
   have f101 := bk10.fz 1 rfl
   refine tkOp 11 hHeld ?_
   refine tkCall 12 (fun Kt hKt => ?_)
   go_simp
   refine hKt.out _ _ ?_ (fun hT => ?_)
   ·(trivial)
   clear hKt Kt hHeld
   have hHeld := hT
   clear hT
   try simp only [Act.put, tkA, tkB, tkC]
   refine wpAnyH_done (by kernel_rfl) ?_ _
   clear hHeld c101 f101
   go_wp2
   go_roundw
   case rel => exact ⟨k + 1, _, σ ++ [(x, K7, c7)], by have := HKN.out; omega, by go_num, ⟨own_set own10 (by omega) (fun b hb => by omega), by rw [List.map_append, HROW.out.2, HNX.out]; rfl, fun s hs => ⟨World.ownsRow.kept (hko s hs).1 (row := some g) ⟨rfl, rfl, rfl, by simp, fun i _ hne => Below.heap_setCell _ ⟨g, 1, none⟩ _ i (fun e => hne (by rw [e]))⟩ (.inr fun e => by have := (World.ownsRow.lt (hko s hs).1 _ e).1; omega), (hko s hs).2⟩, hsep, bk10.set 1 _ (by simp), (((HBW.out.trans (hb7.mono (by omega))).alloc (by omega) _).grown gr10 (Nat.le_trans (by omega) (size_one _ _)) (fun z hz => by have := (hlt z hz).1; omega)).setCell (p := ⟨g, 1, none⟩) (Nat.le_refl _) _⟩⟩
   case measure => simp [intOf]; omega
  ·have hge : decide ((k : Int) < (ne : Int)) = false := by simp; omega
   have hall : t.events.take k = t.events := List.take_of_length_le (by have := HEL.out; omega)
   obtain ⟨h1, h2, h3, h4, h5, h6⟩ := HR.out
   rw [hall] at h2
   obtain ⟨A5, c5, rfl, -⟩ := own_sliceN h1.1
   obtain ⟨n5, hn5⟩ : ∃ n5, σ.length = n5 := ⟨_, rfl⟩
   rw [hn5] at h1 h3 h5
   have hr := (wF0_boxes (HB1.out.trans (h6.mono (by have := HS1.out; have := HG.out; omega)))).2
   have c0 := h5.cell 0 rfl
   have c1 := h5.cell 1 rfl
   have r0 := hr.cell 0 rfl
   have r1 := hr.cell 1 rfl
   have z0 := hr.fz 0 rfl
   have z1 := hr.fz 1 rfl
   have H1 := Lib.hid h1
   have H2 := Lib.hid h2
   have H3 := Lib.hid h3
   have H4 := Lib.hid h4
   have H6 := Lib.hid h6
   have HHW := Lib.hid hw
   clear HR h1 h2 h3 h4 h5 h6 hr hn5 hw
   go_wp2
   refine bodyPost_ret (v := .agg #[.slice NN nn cN, .slice A5 n5 c5]) (by simp [results, Try.results7, go_sem, r0, r1]) rfl ?_
   have hs1 := HS1.out
   have hg1 := HG.out
   have hold : w.heap.size + 1 < g := by omega
   have hlow : (Value.slice NN nn cN).ownBlock ≠ some (w.heap.size + 1) := fun e => by have := (HO1.out.lt _ e).1; omega
   have hn6 := row_other (k := 1) (u := .slice A5 n5 c5) (row_other (k := 0) (u := .slice NN nn cN) (World.ownsRow.kept HO1.out (row := none) ⟨H6.out.os, H6.out.tape, H6.out.output, H6.out.size, fun i hi _ => H6.out.block i (by omega)⟩ (by cases NN <;> simp [Value.ownBlock])) hlow) hlow
   refine ⟨g, _, _, σ, rfl, by omega, ⟨?_, fun b hb => ?_, own_set (own_set H1.out (by omega) (fun b hb => by omega)) (by omega) (fun b hb => by omega), H2.out, fun s hs => ⟨row_other (row_other (H3.out s hs).1 (fun e => by have := (World.ownsRow.lt (H3.out s hs).1 _ e).1; omega)) (fun e => by have := (World.ownsRow.lt (H3.out s hs).1 _ e).1; omega), (H3.out s hs).2⟩, H4.out⟩, (HHW.out.setCell (p := ⟨w.heap.size + 1, 0, none⟩) (by show w.heap.size ≤ w.heap.size + 1; omega) _).setCell (p := ⟨w.heap.size + 1, 1, none⟩) (by show w.heap.size ≤ w.heap.size + 1; omega) _⟩
   ·rw [HNL.out]
    exact hn6
   ·have := (HO1.out.lt b hb).2
    omega
end Go.Proofs.Ytdbgaccnejffpaa.Trace

namespace Go.Proofs.Ytdbgaccnejffpaa.Trace
open Go.RowKit Go.Proofs.Ytdbgaccnejffpaa.Ints Go.Proofs.Ytdbgaccnejffpaa.Mem
theorem own_tr {W : World} {B1 B2 : Nat} {NA : Option Addr} {nn nc : Nat} {EA : Option Addr} {ne ec : Nat} {σ : List SEv} {t : Tr} {S : Nat → Prop} (hN : W.ownsRow B1 9 1 (.slice NA nn nc) nn (t.names.map strS)) (hE : OwnEvs S W B2 (.slice EA ne ec) σ) (hl : σ.map (·.1) = t.events) (hs : ∀ s ∈ t.names, s.length ≤ maxLen) :
  TrOk Any W NA nn nc EA ne ec t := by
 obtain ⟨h0, h1, h2, h3⟩ := strs_own hN
 obtain ⟨A, c, e, h4, h5, h6⟩ := (hE.mono (S' := Any) fun _ _ _ => trivial).reads fun _ _ _ => trivial
 injection e with e1 e2 e3
 subst e1; subst e2; subst e3
 have hle : σ.length = t.events.length := by rw [← hl, List.length_map]
 rw [hl] at h4
 exact ⟨h0, hle.symm, h1, hs, h4, ⟨h2, h3⟩, h5, h6⟩
theorem rowS_set : ∀ (σ : List SEv) (i f : Nat) (s s' : SEv) (u : Value), σ[i]? = some s → f < 2 → cellsS s' = (cellsS s).set f u → rowS (σ.set i s') = (rowS σ).set (i * 2 + f) u
 | [], i, f, s, s', u, h, _, _ => by simp at h
 | x :: σ, 0, f, s, s', u, h, hf, hc => by
  simp only [List.getElem?_cons_zero, Option.some.injEq] at h
  subst h
  rw [List.set_cons_zero]
  show cellsS s' ++ rowS σ = (cellsS x ++ rowS σ).set (0 * 2 + f) u
  rw [hc, Nat.zero_mul, Nat.zero_add, List.set_append_left _ _ (by show f < 2; exact hf)]
 | x :: σ, i + 1, f, s, s', u, h, hf, hc => by
  have ih := rowS_set σ i f s s' u (by simpa using h) hf hc
  rw [List.set_cons_succ]
  show cellsS x ++ rowS (σ.set i s') = (cellsS x ++ rowS σ).set ((i + 1) * 2 + f) u
  rw [ih, List.set_append_right _ _ (by show 2 ≤ _; omega)]
  congr 2
  show i * 2 + f = (i + 1) * 2 + f - 2
  omega
theorem own_len {S : Nat → Prop} {w : World} {base g n c : Nat} {σ : List SEv} (h : OwnEvs S w base (.slice (some ⟨g, 0, none⟩) n c) σ) : n = σ.length := by
 rcases h.1.2 with ⟨e, -⟩ | ⟨g', cap, cur, e, -⟩
 ·cases e
 ·injection e
theorem OwnEvs.set {S : Nat → Prop} {w : World} {base g n c i f : Nat} {σ : List SEv} {s s' : SEv} {u : Value} (h : OwnEvs S w base (.slice (some ⟨g, 0, none⟩) n c) σ) (hs : σ[i]? = some s) (hf : f < 2) (hc : cellsS s' = (cellsS s).set f u)
  (hk : KidOk (fun b => S b ∧ some b ≠ (Value.slice (some ⟨g, 0, none⟩) n c).ownBlock) w s') : OwnEvs S (w.setCell ⟨g, i * 2 + f, none⟩ u) base (.slice (some ⟨g, 0, none⟩) n c) (σ.set i s') := by
 have hn := own_len h
 obtain ⟨h1, h2⟩ := h
 subst hn
 refine ⟨?_, fun t ht => ?_⟩
 ·rw [List.length_set, rowS_set σ i f s s' u hs hf hc]
  exact (h1.stored (i * 2 + f) u).1
 ·have ht' : KidOk (fun b => S b ∧ some b ≠ (Value.slice (some ⟨g, 0, none⟩) σ.length c).ownBlock) w t := by
   rcases List.mem_or_eq_of_mem_set ht with ht | rfl
   ·exact h2 t ht
   ·exact hk
  exact ht'.keep fun p v hp hv => (World.cell?_setCell_far w _ p u (fun e => hp.2 (by rw [← e]; rfl))).trans hv
theorem OwnEvs.at {S : Nat → Prop} {w : World} {base g n c : Nat} {σ : List SEv} (h : OwnEvs S w base (.slice (some ⟨g, 0, none⟩) n c) σ) {i : Nat} {s : SEv} (hs : σ[i]? = some s) : ∀ f, f < 2 → w.cell? ⟨g, i * 2 + f, none⟩ = (cellsS s)[f]? ∧ w.frozen? ⟨g, i * 2 + f, none⟩ = false := fun f hf => by
 have hn := own_len h
 subst hn
 have hi : i < σ.length := (List.getElem?_eq_some_iff.1 hs).1
 refine ⟨?_, h.1.frozenAt _⟩
 rw [h.1.cellAt (i * 2 + f) (by omega), ← rowS_at σ i s hs f hf, Nat.mul_comm]
theorem own_some {S : Nat → Prop} {w : World} {base n c : Nat} {A : Option Addr} {σ : List SEv} (h : OwnEvs S w base (.slice A n c) σ) (h0 : 0 < n) : ∃ g, A = some ⟨g, 0, none⟩ ∧ base ≤ g ∧ g < w.heap.size := by
 have hlt := h.1.lt
 rcases h.1.2 with ⟨e, -⟩ | ⟨g, cap, cur, e, -⟩
 ·injection e with _ e
  omega
 ·injection e with e
  subst e
  exact ⟨g, rfl, hlt g rfl⟩
end Go.Proofs.Ytdbgaccnejffpaa.Trace

namespace Go.Proofs.Ytdbgaccnejffpaa.Sat
open Go.RowKit Go.Proofs.Ytdbgaccnejffpaa.Ints Go.Proofs.Ytdbgaccnejffpaa.Mem Go.Proofs.Ytdbgaccnejffpaa.Trace
theorem make_times {start : Int} (h0 : 0 ≤ start) (ns : List Int) (i : Nat) : 0 ≤ ((makeM start ns).events.getD i noEv).time ∧ ((makeM start ns).events.getD i noEv).time ≤ 9223372036854775808 + 1125899906842624 * 60 := by
 by_cases hi : i < min ns.length 60
 ·have e : (makeM start ns).events.getD i noEv = evM start ns i := evsUp_at _ _ _ _ hi
  rw [e]
  have := time_bounds h0 ns (i + 1) (by omega)
  show 0 ≤ timeUp start ns (i + 1) ∧ timeUp start ns (i + 1) ≤ _
  omega
 ·have e : (makeM start ns).events.getD i noEv = noEv := by
   rw [List.getD_eq_getElem?_getD, List.getElem?_eq_none]
   ·rfl
   ·show (evsUp _ _ _).length ≤ i
    rw [evsUp_len]; omega
  rw [e]
  exact ⟨by decide, by decide⟩
end Go.Proofs.Ytdbgaccnejffpaa.Sat
