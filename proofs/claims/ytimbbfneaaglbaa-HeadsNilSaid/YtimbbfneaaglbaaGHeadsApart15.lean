/-
  What a record at a place of a source is, as plain lists (stage 12). By an AI agent.
  The walk of the reference's Next (stage 13). By an AI agent.
  'append(x, s...)' of a string to a row of bytes of the call's own. By an AI agent.
  The walk of the landed Put. By an AI agent.
  The walk of the reference's Ids. By an AI agent.
  The walk of the reference's Put. By an AI agent.
  The part of LexN that speaks of functions which not every seat has. By an AI agent.
  The walks of the reference's Names and Ids; slices.Contains over names. By an AI agent.
  The walk of the reference's May (traces). By an AI agent.
  The walk of the reference's Header. By an AI agent.
  The walk of the reference's Head. By an AI agent.
  What a call that reads a log leaves. By an AI agent.
-/
import Derived.Test.YtimbbfneaaglbaaGHeadsApart8
import Derived.Test.YtimbbfneaaglbaaGHeadsApart10
import Derived.Test.YtimbbfneaaglbaaGHeadsApart14
import Derived.Test.YtimbbfneaaglbaaGHeadsApart11
import Derived.Test.YtimbbfneaaglbaaGHeadsApart7
import Derived.Lib.AppendStr
import Derived.Test.YtimbbfneaaglbaaGHeadsApart13
import Derived.Test.YtimbbfneaaglbaaGHeadsApart2
import Derived.Test.YtimbbfneaaglbaaGHeadsApart6
import Derived.Lib.IndexAny
import Derived.Test.YtimbbfneaaglbaaGHeadsApart9
namespace Go.Proofs.Ytimbbfneaaglbaa.Scan
open Go.RowKit Go.Proofs.Ytimbbfneaaglbaa.Ints Go.Proofs.Ytimbbfneaaglbaa.Mem Go.Proofs.Ytimbbfneaaglbaa.SumMath Go.Proofs.Ytimbbfneaaglbaa.SumWalks Go.Proofs.Ytimbbfneaaglbaa.Trace Go.Proofs.Ytimbbfneaaglbaa.Record Go.Proofs.Ytimbbfneaaglbaa.Log Go.Proofs.Ytimbbfneaaglbaa.Src

/-- The bytes from a place on that can be read. -/
def restB (b : List Int) (f : Nat) (p : Int) : List Int := (b.take f).drop (min p.toNat f)
/-- What is wrong with the record at a place. -/
def scanE (b : List Int) (f : Nat) (p props : Int) : Nat :=
  if p < 0 then 1 else if (b.length : Int) ≤ p then 13
  else if f < b.length ∧ (errR (restB b f p) (propsR props) = 13 ∨ errR (restB b f p) (propsR props) = 7) then 10 else errR (restB b f p) (propsR props)
def scanV (b : List Int) (f : Nat) (p props : Int) : Ev := if scanE b f p props = 0 then getE (restB b f p) props else noEv
def scanN (b : List Int) (f : Nat) (p props : Int) : Nat := if scanE b f p props = 0 then p.toNat + getN (restB b f p) props else 0
theorem evok_set {W : World} {g : Nat} {x : Ev} {K : Option Addr} {c : Nat} (h : EvOk W x K c) (hne : ∀ a, K = some a → a.block ≠ g) (u0 u1 : Value) : EvOk ((W.setCell ⟨g, 0, none⟩ u0).setCell ⟨g, 1, none⟩ u1) x K c :=
  ⟨h.1, h.2.1.keep fun p u hp hu => by
    obtain ⟨a, ha, hb⟩ := Option.map_eq_some_iff.1 hp
    rw [Record.set2_cell W g u0 u1 p (by rw [← hb]; exact hne a ha)]
    exact hu, h.2.2⟩
end Go.Proofs.Ytimbbfneaaglbaa.Scan

namespace Go.Proofs.Ytimbbfneaaglbaa.Heads
open Go.RowKit Go.Proofs.Ytimbbfneaaglbaa.Ints Go.Proofs.Ytimbbfneaaglbaa.Mem Go.Proofs.Ytimbbfneaaglbaa.Trace Go.Proofs.Ytimbbfneaaglbaa.Record Go.Proofs.Ytimbbfneaaglbaa.Log Go.Proofs.Ytimbbfneaaglbaa.Src

/-- What a call leaves that hands back an event, behind a step of the pool. -/
def GotNext (x : Ev) (er : Nat) (T : World → Prop) (e : Ending) (w' : World) : Prop :=
  ∃ K c, e = .returned (.tuple #[.agg #[.int .u64 x.time, .slice K x.ids.length c], .int .i64 (er : Nat)]) ∧ EvOk w' x K c ∧ T w'
theorem Turn.box {w W : World} {o : Obj} {g : Nat} {D : Nat → Prop} {s : PS} (hD : ∀ q, D q → q < w.heap.size) (h : Turn (w.alloc o) W g D s) (u0 u1 : Value) : Turn w ((W.setCell ⟨w.heap.size, 0, none⟩ u0).setCell ⟨w.heap.size, 1, none⟩ u1) g D s := by
  obtain ⟨D', r, d, l⟩ := h
  have hsz : (w.alloc o).heap.size = w.heap.size + 1 := by simp
  have hoff : ∀ q, q ≠ w.heap.size → ((W.setCell ⟨w.heap.size, 0, none⟩ u0).setCell ⟨w.heap.size, 1, none⟩ u1).heap[q]? = W.heap[q]? := fun q hq =>
    (Below.heap_setCell _ ⟨w.heap.size, 1, none⟩ u1 q hq).trans (Below.heap_setCell _ ⟨w.heap.size, 0, none⟩ u0 q hq)
  have hs2 : ((W.setCell ⟨w.heap.size, 0, none⟩ u0).setCell ⟨w.heap.size, 1, none⟩ u1).heap.size = W.heap.size := by simp
  refine ⟨D', r.keep (fun q hq => hoff q ?_) (by rw [hs2]; exact Nat.le_refl _), fun q hq => ?_, ⟨l.os, l.tape, l.output, by rw [hs2]; have := l.size; omega, fun q hq hn => (hoff q (by omega)).trans ((l.block q (by omega) hn).trans (heap_alloc_old w o hq))⟩⟩
  · rcases d q hq with e | e
    · have := hD q e; omega
    · omega
  · rcases d q hq with e | e
    · exact .inl e
    · exact .inr (by omega)
theorem evok_of {w : World} {NA EA : Option Addr} {nn nc ne ec : Nat} {t : Tr} {S : Nat → Prop} (h : TrOk S w NA nn nc EA ne ec t) {k : Nat} (hk : k < t.events.length) : ∃ b off K c, EA = some ⟨b, off, none⟩ ∧ w.cell? ⟨b, off + k * 2, none⟩ = some (.int .u64 (t.events.getD k noEv).time) ∧ w.cell? ⟨b, off + k * 2 + 1, none⟩ = some (.slice K (t.events.getD k noEv).ids.length c) ∧ EvOk w (t.events.getD k noEv) K c ∧
    S b ∧ (∀ a, K = some a → 0 < (t.events.getD k noEv).ids.length → S a.block) := by
  obtain ⟨b, off, e, hc⟩ := h.evs (by omega)
  have hg : t.events.getD k noEv = t.events[k] := by simp [List.getD, hk]
  obtain ⟨x0, hw, K, c, x1, hK, hKc, hcK, hSb, hS⟩ := hc k _ (List.getElem?_eq_getElem hk)
  rw [hg]
  rw [show off + 2 * k = off + k * 2 by omega] at x0 x1
  exact ⟨b, off, K, c, e, x0, x1, ⟨hw, hK, hKc, hcK⟩, hSb, hS⟩
theorem evok_put {W : World} {g : Nat} {x : Ev} {K : Option Addr} {c : Nat} (h : EvOk W x K c) (hne : ∀ a, K = some a → 0 < x.ids.length → a.block ≠ g) (u0 u1 : Value) : EvOk ((W.setCell ⟨g, 0, none⟩ u0).setCell ⟨g, 1, none⟩ u1) x K c := by
  rcases Nat.eq_zero_or_pos x.ids.length with h0 | h0
  · have hr := h.2.1
    rw [h0] at hr
    have e : x.ids = [] := List.eq_nil_of_length_eq_zero h0
    exact ⟨h.1, by rw [h0, e]; exact Rd.nil _ _ _, h.2.2⟩
  · exact Scan.evok_set h (fun a e => hne a e h0) u0 u1

end Go.Proofs.Ytimbbfneaaglbaa.Heads

namespace Go.Proofs.Ytimbbfneaaglbaa.Log
open Go.RowKit Go.Proofs.Ytimbbfneaaglbaa.Ints Go.Proofs.Ytimbbfneaaglbaa.Record

theorem cells_toI (s : ByteArray) : Lib.strCells s = (toI s.data.toList).map (Value.int .u8) := by
  simp [Lib.strCells, toI, List.map_map, Function.comp_def]
theorem size_toI (s : ByteArray) : (toI s.data.toList).length = s.size := by
  rw [toI_len]
  exact Array.length_toList
theorem wpList_append_str {P : Program} {w : World} {ops : Array Oper} {rest : List Oper} {o : Oper} {a : Act} {Q : Exit → Act → World → Prop} (hgd : o.guard = none) (sl x : Operand) (t u : TypeId)
    (ho : o.op = .call { callee := .builtin .append, args := #[sl, x], argTypes := #[t, u] })
    (base : Nat) (e : TypeId) (i : TypeInfo) (ht : P.underlying t = some (.slice e)) (hu : P.underlying u = some .string) (hi : P.info? e = some i) (hz : i.zero = some (.int .u8 0))
    (hsize : i.size = 1) (hby : i.bytes = 1)
    (v : Value) (n : Nat) (zs : List Int) (hs : a.eval sl = v) (hown : w.ownsRow base e 1 v n (zs.map (Value.int .u8))) (s : ByteArray) (hx : a.eval x = .string s)
    (h63 : n + s.size ≤ maxLen) (hbytes : n + s.size ≤ 140737488355328) (hbase : base ≤ w.heap.size)
    (h : ∀ v' w', w'.ownsRow base e 1 v' (n + s.size) ((zs ++ toI s.data.toList).map (Value.int .u8)) → w.grownBy w' v.ownBlock → wpList P ops Q rest (a.put o.dst v') w') : wpList P ops Q (o :: rest) a w :=
  Lib.wpList_append_own_string w hgd sl x t u ho base e i ht hu hi hz hsize hby v n _ hs hown s hx h63 hbytes hbase fun v' w' h1 h2 _ => h v' w' (by rw [List.map_append, ← cells_toI]; exact h1) h2
end Go.Proofs.Ytimbbfneaaglbaa.Log

namespace Go.Proofs.Ytimbbfneaaglbaa.Record
open Go.RowKit Go.Proofs.Ytimbbfneaaglbaa.Ints Go.Proofs.Ytimbbfneaaglbaa.Mem Go.Proofs.Ytimbbfneaaglbaa.SumMath Go.Proofs.Ytimbbfneaaglbaa.SumWalks Go.Proofs.Ytimbbfneaaglbaa.Trace

/-- What a call that hands back bytes of its own leaves. -/
def GotBytes (w : World) (zs : List Int) (e : Ending) (w' : World) : Prop := Made w zs.length zs e w'
theorem made_in {w W w' : World} {n : Nat} {zs : List Int} {e : Ending} (hb : Below w.heap.size w W) (h : Made W n zs e w') : Made w n zs e w' := by
  obtain ⟨v', rfl, hown, hB⟩ := h
  exact ⟨v', rfl, own_weaken hown hb.size, hb.trans (hB.mono hb.size)⟩
/-- Such bytes as a slice. -/
theorem made_slice {w w' : World} {n : Nat} {zs : List Int} {e : Ending} (h : Made w n zs e w') (hz : ∀ z ∈ zs, (Lit.int .u8 z).wf = true) :
    ∃ A c, e = .returned (.slice A n c) ∧ Rd .u8 w' A n zs ∧ n ≤ c ∧ c ≤ maxLen ∧ (A = none → c = 0) ∧ w'.ownsRow w.heap.size 5 1 (.slice A n c) n (zs.map (Value.int .u8)) ∧ Below w.heap.size w w' := by
  obtain ⟨v', rfl, hown, hB⟩ := h
  obtain ⟨A, c, rfl, h1, h2, h3, h4⟩ := own_slice hown
  exact ⟨A, c, rfl, Rd.own hown hz, h1, h2, h3, hown, hB⟩

set_option maxHeartbeats 4000000 in
set_option maxRecDepth 100000 in
theorem landPut (A : Option Addr) (n c : Nat) (zs : List Int) (x : Ev) (K : Option Addr) (k : Nat) (w : World) (hA : A = none → c = 0) (hnc : n ≤ c) (hn : n ≤ 140737488351232) (h : Rd .u8 w A n zs) (hx : EvOk w x K k) :
    Calls Try.prog 27 #[.slice A n c, .agg #[.int .u64 x.time, .slice K x.ids.length k]] w (GotBytes w (putR zs x)) := by
  have hz := h.len
  obtain ⟨b0, b1⟩ := boxE_at (Below.refl (w.heap.size + 1) (boxE w x K k))
  have hb1 : Below w.heap.size w (boxE w x K k) := boxE_below (Below.refl _ _)
  have hW : w.alloc (.cells #[.int .u64 x.time, .slice K x.ids.length k] 46) = boxE w x K k := rfl
  have hs1 := boxE_size w x K k
  have hx1 := hx.below hb1
  have h1 := h.below hb1
  have FR := landRising K x.ids.length k 64 x.ids (boxE w x K k) hx1.2.1 (by have := hx1.2.2; omega)
  obtain ⟨W1, hW1⟩ : ∃ W1, boxE w x K k = W1 := ⟨_, rfl⟩
  rw [hW1] at hW hs1 b0 b1 hb1 FR hx1 h1
  have HR := Lib.hid FR
  have HW := Lib.hid hW1
  clear FR hW1 hx h
  obtain ⟨m, hm⟩ : ∃ m, x.ids.length = m := ⟨_, rfl⟩
  by_cases hok : idsOk x.ids 64 = true
  · have hp : putR zs x = zs ++ recR x := by unfold putR; rw [if_pos hok]
    have hcnt := ids_count hok
    have hS := landSummed x K k W1 hx1 hok
    have hrl := rec_len x
    rw [hok] at HR
    unfold GotBytes
    rw [hp, List.length_append, hz, hrl]
    rw [hm] at HR hS hW b1 hcnt ⊢
    have HS := Lib.hid hS
    have HB := Lib.hid hb1
    have H1 := Lib.hid h1
    have hm64 : m ≤ 64 := by omega
    clear hS hb1 hx1 h1 hp hrl hz hcnt
    have hwf := Lib.hid (u8_all (body_bytes hok))
    have hwf2 := Lib.hid (u8_all (rec_bytes hok))
    go_enter Try.func27, Try.ntmps27
    go_wp2_with fail
    refine HR.out.mono ?_
    rintro e w' ⟨rfl, rfl⟩
    go_wp2_with fail
    refine HS.out.mono ?_
    intro e w2 hmade
    obtain ⟨A2, c2, rfl, hr2, hc2, hm2, -, -, hB2⟩ := made_slice hmade hwf.out
    clear hmade
    have FP := Lib.hid (sumPut A2 (10 + m) c2 (bodyR x) w2 hc2 hm2 (by omega) hr2)
    clear hr2
    go_wp2_with fail
    refine FP.out.mono ?_
    intro e w3 hmade
    obtain ⟨A3, c3, rfl, hr3, hc3, hm3, -, -, hB3⟩ := made_slice hmade hwf2.out
    clear hmade FP
    have hB4 : Below w.heap.size w w3 := (HB.out.trans (hB2.mono HB.out.size)).trans (hB3.mono (Nat.le_trans HB.out.size hB2.size))
    have hB5 : Below w.heap.size w (w3.alloc (.cells #[.slice A n c, .slice A3 (10 + m + 4) c3] 36)) := hB4.alloc hB4.size _
    have FC := Lib.hid (concat2 w3.heap.size A A3 n c (10 + m + 4) c3 zs (recR x) (w3.alloc (.cells #[.slice A n c, .slice A3 (10 + m + 4) c3] 36)) (box_cell 0 _ rfl) (box_cell 1 _ rfl) ((H1.out.below (by rw [hs1]; exact (hB2.mono (by omega)).trans (hB3.mono (by have := hB2.size; omega)))).alloc _) (hr3.alloc _) (by omega) (by omega))
    go_wp2_with fail
    refine FC.out.mono ?_
    intro e w5 hmade
    obtain ⟨v5, rfl, hown, hB6⟩ := made_in hB5 hmade
    go_wp2
    go_ret
    exact ⟨_, rfl, row_more (by omega) rfl hown, hB6⟩
  · have hok' : idsOk x.ids 64 = false := by simpa using hok
    have hp : putR zs x = zs := by unfold putR; rw [if_neg hok]
    rw [hok'] at HR
    unfold GotBytes
    rw [hp, hz]
    rw [hm] at HR hW b1 ⊢
    have FC := Lib.hid (clone A n c zs W1 hA hnc (by omega) h1)
    have HB := Lib.hid hb1
    clear hb1 hx1 h1 hp hz
    go_enter Try.func27, Try.ntmps27
    go_wp2_with fail
    refine HR.out.mono ?_
    rintro e w' ⟨rfl, rfl⟩
    go_wp2_with fail
    refine FC.out.mono ?_
    intro e w5 hmade
    obtain ⟨v5, rfl, hown, hB6⟩ := made_in HB.out hmade
    go_wp2
    go_ret
    exact ⟨_, rfl, hown, hB6⟩
end Go.Proofs.Ytimbbfneaaglbaa.Record

namespace Go.Proofs.Ytimbbfneaaglbaa.Trace
open Go.RowKit Go.Proofs.Ytimbbfneaaglbaa.Ints Go.Proofs.Ytimbbfneaaglbaa.Mem

end Go.Proofs.Ytimbbfneaaglbaa.Trace

namespace Go.Proofs.Ytimbbfneaaglbaa.Record
open Go.RowKit Go.Proofs.Ytimbbfneaaglbaa.Ints Go.Proofs.Ytimbbfneaaglbaa.Mem Go.Proofs.Ytimbbfneaaglbaa.SumMath Go.Proofs.Ytimbbfneaaglbaa.SumWalks Go.Proofs.Ytimbbfneaaglbaa.Trace

theorem own_lit (w : World) (base : Nat) (T : TypeId) (k : IntKind) (zs : List Int) (n : Nat) (hn : zs.length = n) (hm : n ≤ maxLen) (hb : base ≤ w.heap.size) :
    (w.alloc (.cells (zs.map (Value.int k)).toArray T)).ownsRow base T 1 (.slice (some ⟨w.heap.size, 0, none⟩) n n) n (zs.map (Value.int k)) :=
  ⟨by simp [hn], .inr ⟨w.heap.size, n, _, rfl, hb, heap_alloc_new w _, Nat.le_refl _, hm, by simp [hn], by rw [Nat.mul_one, List.take_of_length_le (by simp [hn])]⟩⟩

end Go.Proofs.Ytimbbfneaaglbaa.Record

namespace Go.Proofs.Ytimbbfneaaglbaa.Lex
open Go.RowKit
section
variable {P : Program} {w : World}
end

end Go.Proofs.Ytimbbfneaaglbaa.Lex

namespace Go.Proofs.Ytimbbfneaaglbaa.Trace
open Go.RowKit Go.Proofs.Ytimbbfneaaglbaa.Ints Go.Proofs.Ytimbbfneaaglbaa.Mem

/-- slices.Contains, at a list of names. -/
theorem containsStr (A : Option Addr) (n c : Nat) (l : List (List UInt8)) (x : ByteArray) (w : World) (hl : l.length = n) (hn : n ≤ 1048576) (h : Strs w A l) :
    Calls Try.prog 58 #[.slice A n c, .string x] w fun e w' => e = .returned (.bool (decide (x.data.toList ∈ l))) ∧ w' = w := by
  subst hl
  by_cases h0 : l.length = 0
  · have : l = [] := List.eq_nil_of_length_eq_zero h0
    subst this
    exact Try.slices_Contains_string_empty A c x w
  · obtain ⟨b, off, rfl, hc⟩ := h (by omega)
    refine (Try.slices_Contains_string b off l.length c (l.map fun s => (⟨s.toArray⟩ : ByteArray)) x w (by rw [List.length_map]; exact Nat.le_refl _) (by omega) (fun j hj => ?_)).mono fun e w' ⟨he, hw⟩ => ⟨?_, hw⟩
    · rw [List.length_map] at hj
      rw [hc j _ (List.getElem?_eq_getElem hj)]
      simp [List.getD, hj, strS]
    · rw [he, List.take_of_length_le (by rw [List.length_map]; exact Nat.le_refl _)]
      congr 2
      rw [Bool.eq_iff_iff, Lib.containsS_iff, decide_eq_true_iff, List.mem_map]
      constructor
      · rintro ⟨s, hs, rfl⟩; exact hs
      · intro hx
        refine ⟨x.data.toList, hx, ?_⟩
        obtain ⟨⟨y⟩⟩ := x
        rfl
theorem strs_at {w : World} {b off : Nat} {l : List (List UInt8)} (h : ∀ (j : Nat) (s : List UInt8), l[j]? = some s → w.cell? ⟨b, off + j, none⟩ = some (strS s)) {k : Nat} (hk : k < l.length) :
    w.cell? ⟨b, off + k, none⟩ = some (.string ⟨(l.getD k []).toArray⟩) := by
  rw [h k _ (List.getElem?_eq_getElem hk)]
  simp [List.getD, hk, strS]

end Go.Proofs.Ytimbbfneaaglbaa.Trace

namespace Go.Proofs.Ytimbbfneaaglbaa.Trace
open Go.RowKit Go.Proofs.Ytimbbfneaaglbaa.Ints Go.Proofs.Ytimbbfneaaglbaa.Mem

/-- The box of a trace, in a new block. -/
abbrev boxT (w : World) (NA : Option Addr) (nn nc : Nat) (EA : Option Addr) (ne ec : Nat) : World := w.alloc (.cells #[.slice NA nn nc, .slice EA ne ec] 30)
theorem boxT_at {w W : World} {NA EA : Option Addr} {nn nc ne ec : Nat} (hb : Below (w.heap.size + 1) (boxT w NA nn nc EA ne ec) W) :
    W.cell? ⟨w.heap.size, 0, none⟩ = some (.slice NA nn nc) ∧ W.cell? ⟨w.heap.size, 1, none⟩ = some (.slice EA ne ec) := by
  have h0 : (boxT w NA nn nc EA ne ec).cell? ⟨w.heap.size, 0, none⟩ = some (.slice NA nn nc) := box_cell 0 _ rfl
  have h1 : (boxT w NA nn nc EA ne ec).cell? ⟨w.heap.size, 1, none⟩ = some (.slice EA ne ec) := box_cell 1 _ rfl
  exact ⟨(hb.cell (p := ⟨w.heap.size, 0, none⟩) (by show w.heap.size < w.heap.size + 1; omega)).trans h0, (hb.cell (p := ⟨w.heap.size, 1, none⟩) (by show w.heap.size < w.heap.size + 1; omega)).trans h1⟩
theorem boxT_below {w W : World} {NA EA : Option Addr} {nn nc ne ec : Nat} (hb : Below (w.heap.size + 1) (boxT w NA nn nc EA ne ec) W) : Below w.heap.size w W :=
  ((Below.refl w.heap.size w).alloc (Nat.le_refl _) _).trans (hb.mono (by omega))

end Go.Proofs.Ytimbbfneaaglbaa.Trace

namespace Go.Proofs.Ytimbbfneaaglbaa.Log
open Go.RowKit Go.Proofs.Ytimbbfneaaglbaa.Ints Go.Proofs.Ytimbbfneaaglbaa.Mem Go.Proofs.Ytimbbfneaaglbaa.SumMath Go.Proofs.Ytimbbfneaaglbaa.SumWalks Go.Proofs.Ytimbbfneaaglbaa.Trace Go.Proofs.Ytimbbfneaaglbaa.Record

theorem info5s : (Try.prog.info? 5).map (fun i => (i.zero, i.size, i.bytes)) = some (some (.int .u8 0), 1, 1) := by kernel_rfl
theorem strs_cell {w : World} {A : Option Addr} {l : List (List UInt8)} (h : Strs w A l) {k : Nat} (hk : k < l.length) :
    ∃ b off, A = some ⟨b, off, none⟩ ∧ w.cell? ⟨b, off + k, none⟩ = some (.string ⟨(l.getD k []).toArray⟩) := by
  obtain ⟨b, off, e, hc⟩ := h (by omega)
  refine ⟨b, off, e, ?_⟩
  have := hc k _ (List.getElem?_eq_getElem hk)
  rw [this]
  simp [strS, List.getD, hk]

end Go.Proofs.Ytimbbfneaaglbaa.Log

namespace Go.Proofs.Ytimbbfneaaglbaa.Log
open Go.RowKit Go.Proofs.Ytimbbfneaaglbaa.Ints Go.Proofs.Ytimbbfneaaglbaa.Mem Go.Proofs.Ytimbbfneaaglbaa.SumMath Go.Proofs.Ytimbbfneaaglbaa.SumWalks Go.Proofs.Ytimbbfneaaglbaa.Trace Go.Proofs.Ytimbbfneaaglbaa.Record
open Go.Proofs.Ytimbbfneaaglbaa.Lex (nameS)

theorem infoStrL : (Try.prog.info? 9).map (fun i => (i.zero, i.size, i.bytes)) = some (some (.string { data := #[] }), 1, 16) := by kernel_rfl
theorem magic_same {zs : List Int} (h : ∀ z ∈ zs, (Lit.int .u8 z).wf = true) : ((strOfNums zs).toList == [87, 71, 76, 1]) = decide (zs = [87, 71, 76, 1]) := by
  have e : (strOfNums [87, 71, 76, 1]).toList = [87, 71, 76, 1] := by kernel_rfl
  have := str_same h (ys := [87, 71, 76, 1]) (by decide)
  rw [e] at this
  exact this
/-- What a call that reads a header leaves. -/
def GotHead (w : World) (b : List Int) (miss : Nat) (e : Ending) (w' : World) : Prop :=
  ∃ A c, e = .returned (.tuple #[.slice A (headD b miss).1.length c, .int .i64 ((headD b miss).2.1 : Nat), .int .i64 ((headD b miss).2.2 : Nat)]) ∧
    w'.ownsRow w.heap.size 9 1 (.slice A (headD b miss).1.length c) (headD b miss).1.length ((headD b miss).1.map strS) ∧ Below w.heap.size w w'
theorem head_none {w w' : World} {b : List Int} {miss n : Nat} (h : headD b miss = ([], 0, n)) (hb : Below w.heap.size w w') :
    GotHead w b miss (.returned (.tuple #[.slice none 0 0, .int .i64 0, .int .i64 (n : Nat)])) w' := by
  unfold GotHead
  rw [h]
  exact ⟨none, 0, rfl, World.ownsRow_nil _ _ _ _, hb⟩
theorem wpList_append_name {P : Program} {w : World} {ops : Array Oper} {rest : List Oper} {o : Oper} {a : Act} {Q : Exit → Act → World → Prop} (hgd : o.guard = none) (s x : Operand) (t : TypeId)
    (ho : o.op = .call { callee := .builtin .append, args := #[s, x], argTypes := #[t, t] }) (base : Nat) (e : TypeId) (i : TypeInfo)
    (ht : P.underlying t = some (.slice e)) (hi : P.info? e = some i) (hz : i.zero = some (.string { data := #[] })) (hsize : i.size = 1) (hby : i.bytes = 16)
    (v : Value) (l : List (List UInt8)) (hs : a.eval s = v) (T : TypeId) (sb : ByteArray) (hown : w.ownsRow base e 1 v l.length (l.map strS))
    (hx : a.eval x = .slice (some ⟨w.heap.size, 0, none⟩) 1 1) (hl : l.length ≤ 100000) (hbase : base ≤ w.heap.size)
    (h : ∀ v' w', w'.ownsRow base e 1 v' (l.length + 1) ((l ++ [sb.data.toList]).map strS) → (w.alloc (.cells #[.string sb] T)).grownBy w' v.ownBlock → wpList P ops Q rest (a.put o.dst v') w') : wpList P ops Q (o :: rest) a (w.alloc (.cells #[.string sb] T)) := by
  refine wpList_append_own _ hgd s x t ho base e i (.string { data := #[] }) 1 16 ht hi hz hsize hby rfl (by decide) v l.length (l.map strS) hs (hown.alloc _) ⟨w.heap.size, 0, none⟩ 1 1 [.string sb] hx rfl (fun j u hu => ?_) (fun u hu => by rw [List.mem_singleton.1 hu]; rfl) (by unfold maxLen; omega) (by omega) (le_alloc hbase) fun v' w' h1 h2 _ => h v' w' ?_ h2
  · rcases j with _ | j
    · simp at hu
      subst hu
      exact box_cell 0 _ rfl
    · simp at hu
  · rw [List.map_append, List.map_singleton, ← str_eta]
    exact h1

end Go.Proofs.Ytimbbfneaaglbaa.Log

namespace Go.Proofs.Ytimbbfneaaglbaa.Log
open Go.RowKit Go.Proofs.Ytimbbfneaaglbaa.Ints Go.Proofs.Ytimbbfneaaglbaa.Mem Go.Proofs.Ytimbbfneaaglbaa.SumMath Go.Proofs.Ytimbbfneaaglbaa.SumWalks Go.Proofs.Ytimbbfneaaglbaa.Trace Go.Proofs.Ytimbbfneaaglbaa.Record

theorem strs_set {W : World} {A : Option Addr} {l : List (List UInt8)} {g : Nat} (h : Strs W A l) (hne : ∀ a, A = some a → a.block ≠ g) (u0 u1 : Value) : Strs ((W.setCell ⟨g, 0, none⟩ u0).setCell ⟨g, 1, none⟩ u1) A l := fun h0 => by
  obtain ⟨b, off, e, hc⟩ := h h0
  refine ⟨b, off, e, fun j s hs => ?_⟩
  rw [Record.set2_cell W g u0 u1 ⟨b, off + j, none⟩ (show b ≠ g from hne _ e)]
  exact hc j s hs
theorem grown_set (w : World) (p : Addr) (u : Value) : w.grownBy (w.setCell p u) (some p.block) :=
  ⟨rfl, rfl, rfl, by simp [World.setCell], fun k _ hne => Below.heap_setCell w p u k (fun e => hne (by rw [e]))⟩
/-- What Decode leaves: the trace, the number of its events, and a number. -/
def GotDec (w : World) (b : List Int) (e : Ending) (w' : World) : Prop :=
  ∃ NA nc EA ec, e = .returned (.tuple #[.agg #[.slice NA (decT b).names.length nc, .slice EA (decT b).events.length ec], .int .i64 ((decT b).events.length : Nat), .int .i64 (decE b : Nat)]) ∧
    TrOk Any w' NA (decT b).names.length nc EA (decT b).events.length ec (decT b) ∧ Below w.heap.size w w'
theorem tr_set {W : World} {NA EA : Option Addr} {nn nc ne ec g : Nat} {t : Tr} (h : TrOk (fun b => g < b) W NA nn nc EA ne ec t) (hN : ∀ a, NA = some a → g < a.block) (u0 u1 : Value) :
    TrOk Any ((W.setCell ⟨g, 0, none⟩ u0).setCell ⟨g, 1, none⟩ u1) NA nn nc EA ne ec t :=
  ⟨h.nlen, h.elen, strs_set h.names (fun a e => by have := hN a e; omega) _ _, h.sizes, (h.evs.keep fun p u hp hu => by rw [Record.set2_cell _ g _ _ _ (by have : g < p.block := hp; omega)]; exact hu).any, h.ncap, h.ecap⟩
/-- The same, with the trace in memory of the call's own. -/
def GotDecN (w : World) (b : List Int) (e : Ending) (w' : World) : Prop :=
  ∃ NA nc EA ec, e = .returned (.tuple #[.agg #[.slice NA (decT b).names.length nc, .slice EA (decT b).events.length ec], .int .i64 ((decT b).events.length : Nat), .int .i64 (decE b : Nat)]) ∧
    TrOk (fun b => w.heap.size ≤ b) w' NA (decT b).names.length nc EA (decT b).events.length ec (decT b) ∧ (∀ a, NA = some a → w.heap.size ≤ a.block) ∧ Below w.heap.size w w'
theorem GotDecN.any {w : World} {b : List Int} {e : Ending} {w' : World} (h : GotDecN w b e w') : GotDec w b e w' := by
  obtain ⟨NA, nc, EA, ec, h1, h2, -, h3⟩ := h
  exact ⟨NA, nc, EA, ec, h1, h2.any, h3⟩
theorem tr_setN {W : World} {NA EA : Option Addr} {nn nc ne ec g : Nat} {t : Tr} (h : TrOk (fun b => g < b) W NA nn nc EA ne ec t) (hN : ∀ a, NA = some a → g < a.block) (u0 u1 : Value) :
    TrOk (fun b => g ≤ b) ((W.setCell ⟨g, 0, none⟩ u0).setCell ⟨g, 1, none⟩ u1) NA nn nc EA ne ec t :=
  ⟨h.nlen, h.elen, strs_set h.names (fun a e => by have := hN a e; omega) _ _, h.sizes, (h.evs.keep fun p u hp hu => by rw [Record.set2_cell _ g _ _ _ (by have : g < p.block := hp; omega)]; exact hu).mono (fun b _ hb => Nat.le_of_lt hb), h.ncap, h.ecap⟩
/-- A trace of the call's own, beside a block that is stored into. -/
theorem tr_grown {B : Nat} {w w' : World} {NA EA : Option Addr} {nn nc ne ec g : Nat} {t : Tr} (h : TrOk (fun b => B ≤ b) w NA nn nc EA ne ec t) (hN : ∀ a, NA = some a → B ≤ a.block) (hg : w.grownBy w' (some g)) (hB : g < B) : TrOk (fun b => B ≤ b) w' NA nn nc EA ne ec t :=
  ⟨h.nlen, h.elen, fun h0 => by
    obtain ⟨b, off, e, hc⟩ := h.names h0
    refine ⟨b, off, e, fun j s hs => ?_⟩
    have h1 := hc j s hs
    have h2 : B ≤ b := hN _ e
    rw [World.cell?_of_block (w := w) (a := ⟨b, off + j, none⟩) (hg.block b (World.block_lt_of_cell? w _ h1) (by simp; omega))]
    exact h1, h.sizes, h.evs.keep fun p u hp hu => by
    have h2 : B ≤ p.block := hp
    rw [World.cell?_of_block (w := w) (a := p) (hg.block p.block (World.block_lt_of_cell? w _ hu) (by simp; omega))]
    exact hu, h.ncap, h.ecap⟩
end Go.Proofs.Ytimbbfneaaglbaa.Log
