/-
  A source of bytes as plain lists: what a Read tells. A block of the reference's source. By an AI agent.
  'append(x, s...)' of a string to a row of bytes of the call's own. By an AI agent.
  The walk of the landed Put. By an AI agent.
-/
import Derived.Test.YtbbjoffknoaoiaaGScanAny12
import Derived.Test.YtbbjoffknoaoiaaGScanAny8
import Derived.Lib.AppendStr
namespace Go.Proofs.Ytbbjoffknoaoiaa.Src
open Go.RowKit Go.Proofs.Ytbbjoffknoaoiaa.Ints Go.Proofs.Ytbbjoffknoaoiaa.Mem

/-- From where on bytes can't be read: the length, if there is no fault. -/
def faultP (n : Nat) (fault : Int) : Nat := if fault < 0 ∨ (n : Int) < fault then n else fault.toNat
theorem fault_le (n : Nat) (fault : Int) : faultP n fault ≤ n := by unfold faultP; split <;> omega
/-- A Read's error. -/
def readE (n f : Nat) (p most : Int) : Nat := if p < 0 ∨ most < 1 then 1 else if (n : Int) ≤ p then 13 else if (f : Int) ≤ p then 10 else 0
/-- The script's limit. -/
def limI (sc : List Int) (N : Nat) (m : Int) : Int := if N < sc.length then min m (max 1 (sc[N]?.getD 0)) else m
def readK (f : Nat) (sc : List Int) (N : Nat) (p most : Int) : Nat := (limI sc N (min most ((f : Int) - p))).toNat
/-- What a Read tells. -/
def readL (bs : List Int) (f : Nat) (sc : List Int) (N : Nat) (p most : Int) : List Int := if readE bs.length f p most = 0 then (bs.drop p.toNat).take (readK f sc N p most) else []
/-- How many Reads told bytes, behind it. -/
def readN (n f N : Nat) (p most : Int) : Nat := if readE n f p most = 0 then N + 1 else N
theorem read_zero {n f : Nat} {p most : Int} (h : readE n f p most = 0) : 0 ≤ p ∧ 1 ≤ most ∧ p < n ∧ p < f := by
  unfold readE at h
  split at h
  · exact absurd h (by decide)
  · split at h
    · exact absurd h (by decide)
    · split at h
      · exact absurd h (by decide)
      · omega
theorem lim_bd (sc : List Int) (N : Nat) {m : Int} (hm : 1 ≤ m) : 1 ≤ limI sc N m ∧ limI sc N m ≤ m := by unfold limI; split <;> omega
theorem readK_bd {n f : Nat} (sc : List Int) (N : Nat) {p most : Int} (_hf : f ≤ n) (h : readE n f p most = 0) : 1 ≤ readK f sc N p most ∧ p.toNat + readK f sc N p most ≤ f ∧ (readK f sc N p most : Int) = limI sc N (min most ((f : Int) - p)) ∧ (readK f sc N p most : Int) ≤ most := by
  obtain ⟨h1, h2, h3, h4⟩ := read_zero h
  have := lim_bd sc N (m := min most ((f : Int) - p)) (by omega)
  unfold readK
  omega
theorem readL_len {bs : List Int} {f : Nat} (sc : List Int) (N : Nat) {p most : Int} (hf : f ≤ bs.length) (h : readE bs.length f p most = 0) : (readL bs f sc N p most).length = readK f sc N p most := by
  have := readK_bd sc N hf h
  unfold readL
  rw [if_pos h, List.length_take, List.length_drop]
  omega
theorem readL_none {bs : List Int} {f : Nat} {sc : List Int} {N : Nat} {p most : Int} (h : readE bs.length f p most ≠ 0) : readL bs f sc N p most = [] := by unfold readL; rw [if_neg h]
theorem readL_bytes {bs : List Int} {f : Nat} {sc : List Int} {N : Nat} {p most : Int} (hb : ∀ z ∈ bs, (Lit.int .u8 z).wf = true) : ∀ z ∈ readL bs f sc N p most, (Lit.int .u8 z).wf = true := by
  intro z hz
  unfold readL at hz
  split at hz
  · exact hb z (List.mem_of_mem_drop (List.mem_of_mem_take hz))
  · cases hz

theorem rd_grown {k : IntKind} {w w' : World} {A : Option Addr} {n : Nat} {zs : List Int} {row : Option Nat} (h : Rd k w A n zs) (hg : w.grownBy w' row) (hne : ∀ a, A = some a → 0 < n → some a.block ≠ row) : Rd k w' A n zs := by
  rcases Nat.eq_zero_or_pos n with h0 | h0
  · subst h0
    rw [List.eq_nil_of_length_eq_zero h.len]
    exact Rd.nil _ _ _
  · exact h.grown hg (fun a e => hne a e h0)
theorem rd_lt {k : IntKind} {w : World} {A : Option Addr} {n : Nat} {zs : List Int} (h : Rd k w A n zs) : ∀ a, A = some a → 0 < n → a.block < w.heap.size := by
  intro a e h0
  obtain ⟨b, off, e2, hc⟩ := h.cell h0
  rw [e] at e2
  injection e2 with e2
  subst e2
  exact World.block_lt_of_cell? w _ (hc 0 h0)
/-- A source of four cells in the block g: bytes, script, fault, how many Reads told bytes; what the first two read as lies in blocks of S. -/
structure Src4 (S : Nat → Prop) (w : World) (g : Nat) (bs sc : List Int) (f N : Nat) : Prop where
  ex : ∃ A c B d, Blk w g [.slice A bs.length c, .slice B sc.length d, .int .i64 (f : Nat), .int .i64 (N : Nat)] ∧ Rd .u8 w A bs.length bs ∧ bs.length ≤ c ∧ c ≤ maxLen ∧ Rd .i64 w B sc.length sc ∧ sc.length ≤ maxLen ∧
    (∀ a, A = some a → 0 < bs.length → S a.block) ∧ (∀ a, B = some a → 0 < sc.length → S a.block)
  ne : ¬ S g
  le : f ≤ bs.length
theorem Src4.lt {S : Nat → Prop} {w : World} {g : Nat} {bs sc : List Int} {f N : Nat} (h : Src4 S w g bs sc f N) : g < w.heap.size := by
  obtain ⟨A, c, B, d, h1, -⟩ := h.ex
  exact h1.1
theorem Src4.kept {S : Nat → Prop} {w w' : World} {g : Nat} {bs sc : List Int} {f N : Nat} {row : Option Nat} (h : Src4 S w g bs sc f N) (hg : w.grownBy w' row) (hne : some g ≠ row) (hS : ∀ b, S b → some b ≠ row) : Src4 S w' g bs sc f N := by
  obtain ⟨A, c, B, d, h1, h2, h3, h4, h5, h6, h7, h8⟩ := h.ex
  exact ⟨⟨A, c, B, d, h1.grown hg hne, rd_grown h2 hg (fun a e h0 => hS _ (h7 a e h0)), h3, h4, rd_grown h5 hg (fun a e h0 => hS _ (h8 a e h0)), h6, h7, h8⟩, h.ne, h.le⟩
theorem Src4.below {S : Nat → Prop} {w w' : World} {g : Nat} {bs sc : List Int} {f N : Nat} (h : Src4 S w g bs sc f N) (hb : Below w.heap.size w w') : Src4 S w' g bs sc f N := by
  obtain ⟨A, c, B, d, h1, h2, h3, h4, h5, h6, h7, h8⟩ := h.ex
  exact ⟨⟨A, c, B, d, h1.later hb, h2.below hb, h3, h4, h5.below hb, h6, h7, h8⟩, h.ne, h.le⟩
theorem Src4.mono {S S' : Nat → Prop} {w : World} {g : Nat} {bs sc : List Int} {f N : Nat} (h : Src4 S w g bs sc f N) (hs : ∀ b, S b → S' b) (hg : ¬ S' g) : Src4 S' w g bs sc f N := by
  obtain ⟨A, c, B, d, h1, h2, h3, h4, h5, h6, h7, h8⟩ := h.ex
  exact ⟨⟨A, c, B, d, h1, h2, h3, h4, h5, h6, fun a e h0 => hs _ (h7 a e h0), fun a e h0 => hs _ (h8 a e h0)⟩, hg, h.le⟩
theorem grown_cell (w : World) (p : Addr) (u : Value) : w.grownBy (w.setCell p u) (some p.block) :=
  ⟨rfl, rfl, rfl, by simp [World.setCell], fun k _ hne => Below.heap_setCell w p u k (fun e => hne (by rw [e]))⟩
theorem grown_trans {w w1 w2 : World} {row : Option Nat} (h : w.grownBy w1 row) (k : w1.grownBy w2 row) : w.grownBy w2 row :=
  ⟨k.os.trans h.os, k.tape.trans h.tape, k.output.trans h.output, Nat.le_trans h.size k.size, fun b hb hne => (k.block b (Nat.lt_of_lt_of_le hb h.size) hne).trans (h.block b hb hne)⟩
theorem grown_below {w w' : World} (h : Below w.heap.size w w') (row : Option Nat) : w.grownBy w' row := ⟨h.os, h.tape, h.output, h.size, fun b hb _ => h.block b hb⟩
theorem below_grown {B : Nat} {w w' : World} {g : Nat} (h : w.grownBy w' (some g)) (hB : B ≤ w.heap.size) (hg : B ≤ g) : Below B w w' := ⟨h.os, h.tape, h.output, h.size, fun b hb => h.block b (by omega) (fun e => by injection e with e; omega)⟩
/-- One Read more. -/
theorem Src4.step {S : Nat → Prop} {w : World} {g : Nat} {bs sc : List Int} {f N : Nat} (h : Src4 S w g bs sc f N) : Src4 S (w.setCell ⟨g, 3, none⟩ (.int .i64 ((N : Int) + 1))) g bs sc f (N + 1) := by
  obtain ⟨A, c, B, d, h1, h2, h3, h4, h5, h6, h7, h8⟩ := h.ex
  have hgr := grown_cell w ⟨g, 3, none⟩ (.int .i64 ((N : Int) + 1))
  have off : ∀ a : Addr, S a.block → some a.block ≠ some g := fun a ha e => by
    injection e with e
    rw [e] at ha
    exact h.ne ha
  have hst := h1.set 3 (.int .i64 ((N : Int) + 1)) (by simp)
  refine ⟨⟨A, c, B, d, ?_, rd_grown h2 hgr (fun a e h0 => off a (h7 a e h0)), h3, h4, rd_grown h5 hgr (fun a e h0 => off a (h8 a e h0)), h6, h7, h8⟩, h.ne, h.le⟩
  have e : ((N + 1 : Nat) : Int) = (N : Int) + 1 := by omega
  rw [e]
  simpa using hst
theorem slice_midB {P : Program} (t : TypeId) (ht : P.underlying t = some (.slice (P.elem t))) (size : Nat) (hs : (P.info? (P.elem t)).map (·.size) = some size) (A : Option Addr) (n cap k m : Nat) (hk : k ≤ m) (hm : m ≤ cap) (W : World) :
    (Instr.slice t (.slice A n cap) (some (.int .i64 (k : Int))) (some (.int .i64 (m : Int))) none).run P W = .ok (.slice (fromAddr A cap k size) (m - k) (cap - k)) W := by
  rw [run_slice_lh W t A n cap ht .i64 .i64 (k : Int) (m : Int) (by omega) (by omega) (by omega)]
  obtain ⟨i, hi, hz⟩ := Option.map_eq_some_iff.1 hs
  simp [sizeOf, typeInfo, hi, hz, Result.andThen, sliced, fromAddr]
/-- Bytes from a place on, wherever they stand. -/
theorem rd_fromB {w : World} {A : Option Addr} {n c p : Nat} {zs : List Int} (h : Rd .u8 w A n zs) (hnc : n ≤ c) (hp : p ≤ n) (hn : 0 < n) : Rd .u8 w (fromAddr A c p 1) (n - p) (zs.drop p) ∧ ∀ a, fromAddr A c p 1 = some a → ∃ a', A = some a' ∧ a.block = a'.block := by
  obtain ⟨b, off, rfl, -⟩ := h.cell hn
  have hd := h.drop hp
  unfold fromAddr
  split
  · have e : n - p = 0 := by omega
    rw [e] at hd ⊢
    rw [List.eq_nil_of_length_eq_zero hd.len]
    exact ⟨Rd.nil _ _ _, fun a h => ⟨_, rfl, by cases h; rfl⟩⟩
  · have e : (⟨b, off, none⟩ : Addr).add (p * 1) = ⟨b, off + p, none⟩ := by unfold Addr.add; split <;> simp_all
    refine ⟨?_, fun a h => ⟨_, rfl, by rw [← Option.some.inj h]; show ((⟨b, off, none⟩ : Addr).add (p * 1)).block = b; rw [e]⟩⟩
    show Rd .u8 w (some ((⟨b, off, none⟩ : Addr).add (p * 1))) _ _
    rw [e]
    exact hd
end Go.Proofs.Ytbbjoffknoaoiaa.Src

namespace Go.Proofs.Ytbbjoffknoaoiaa.Log
open Go.RowKit Go.Proofs.Ytbbjoffknoaoiaa.Ints Go.Proofs.Ytbbjoffknoaoiaa.Record

theorem cells_toI (s : ByteArray) : Lib.strCells s = (toI s.data.toList).map (Value.int .u8) := by
  simp [Lib.strCells, toI, List.map_map, Function.comp_def]
theorem size_toI (s : ByteArray) : (toI s.data.toList).length = s.size := by
  rw [toI_len]
  exact Array.length_toList
theorem wpList_append_str {P : Program} {w : World} {ops : Array Oper} {rest : List Oper} {o : Oper} {a : Act} {Q : Exit → Act → World → Prop} (hgd : o.guard = none) (sl x : Operand) (t u : TypeId)
    (ho : o.op = .call { callee := .builtin .append, args := #[sl, x], argTypes := #[t, u] })
    (base : Nat) (e : TypeId) (i : TypeInfo) (ht : P.underlying t = some (.slice e)) (hu : P.underlying u = some .string) (hi : P.info? e = some i) (hz : i.zero = some (.int .u8 0))
    (hsize : i.size = 1) (hby : i.bytes = 1)
    (v : Value) (n : Nat) (zs : List Int) (hs : a.eval sl = v) (hown : w.ownsRow base e 1 v n (zs.map (Value.int .u8))) (s : ByteArray) (hx : a.eval x = .string s)
    (h63 : n + s.size ≤ maxLen) (hbytes : n + s.size ≤ 140737488355328) (hbase : base ≤ w.heap.size)
    (h : ∀ v' w', w'.ownsRow base e 1 v' (n + s.size) ((zs ++ toI s.data.toList).map (Value.int .u8)) → w.grownBy w' v.ownBlock → wpList P ops Q rest (a.put o.dst v') w') : wpList P ops Q (o :: rest) a w :=
  Lib.wpList_append_own_string w hgd sl x t u ho base e i ht hu hi hz hsize hby v n _ hs hown s hx h63 hbytes hbase fun v' w' h1 h2 _ => h v' w' (by rw [List.map_append, ← cells_toI]; exact h1) h2
end Go.Proofs.Ytbbjoffknoaoiaa.Log

namespace Go.Proofs.Ytbbjoffknoaoiaa.Record
open Go.RowKit Go.Proofs.Ytbbjoffknoaoiaa.Ints Go.Proofs.Ytbbjoffknoaoiaa.Mem Go.Proofs.Ytbbjoffknoaoiaa.SumMath Go.Proofs.Ytbbjoffknoaoiaa.SumWalks Go.Proofs.Ytbbjoffknoaoiaa.Trace

/-- What a call that hands back bytes of its own leaves. -/
def GotBytes (w : World) (zs : List Int) (e : Ending) (w' : World) : Prop := Made w zs.length zs e w'
theorem made_in {w W w' : World} {n : Nat} {zs : List Int} {e : Ending} (hb : Below w.heap.size w W) (h : Made W n zs e w') : Made w n zs e w' := by
  obtain ⟨v', rfl, hown, hB⟩ := h
  exact ⟨v', rfl, own_weaken hown hb.size, hb.trans (hB.mono hb.size)⟩
/-- Such bytes as a slice. -/
theorem made_slice {w w' : World} {n : Nat} {zs : List Int} {e : Ending} (h : Made w n zs e w') (hz : ∀ z ∈ zs, (Lit.int .u8 z).wf = true) :
    ∃ A c, e = .returned (.slice A n c) ∧ Rd .u8 w' A n zs ∧ n ≤ c ∧ c ≤ maxLen ∧ (A = none → c = 0) ∧ w'.ownsRow w.heap.size 5 1 (.slice A n c) n (zs.map (Value.int .u8)) ∧ Below w.heap.size w w' := by
  obtain ⟨v', rfl, hown, hB⟩ := h
  obtain ⟨A, c, rfl, h1, h2, h3, h4⟩ := own_slice hown
  exact ⟨A, c, rfl, Rd.own hown hz, h1, h2, h3, hown, hB⟩

set_option maxHeartbeats 4000000 in
set_option maxRecDepth 100000 in
theorem landPut (A : Option Addr) (n c : Nat) (zs : List Int) (x : Ev) (K : Option Addr) (k : Nat) (w : World) (hA : A = none → c = 0) (hnc : n ≤ c) (hn : n ≤ 140737488351232) (h : Rd .u8 w A n zs) (hx : EvOk w x K k) :
    Calls Try.prog 31 #[.slice A n c, .agg #[.int .u64 x.time, .slice K x.ids.length k]] w (GotBytes w (putR zs x)) := by
  have hz := h.len
  obtain ⟨b0, b1⟩ := boxE_at (Below.refl (w.heap.size + 1) (boxE w x K k))
  have hb1 : Below w.heap.size w (boxE w x K k) := boxE_below (Below.refl _ _)
  have hW : w.alloc (.cells #[.int .u64 x.time, .slice K x.ids.length k] 38) = boxE w x K k := rfl
  have hs1 := boxE_size w x K k
  have hx1 := hx.below hb1
  have h1 := h.below hb1
  have FR := landRising K x.ids.length k 64 x.ids (boxE w x K k) hx1.2.1 (by have := hx1.2.2; omega)
  obtain ⟨W1, hW1⟩ : ∃ W1, boxE w x K k = W1 := ⟨_, rfl⟩
  rw [hW1] at hW hs1 b0 b1 hb1 FR hx1 h1
  have HR := Lib.hid FR
  have HW := Lib.hid hW1
  clear FR hW1 hx h
  obtain ⟨m, hm⟩ : ∃ m, x.ids.length = m := ⟨_, rfl⟩
  by_cases hok : idsOk x.ids 64 = true
  · have hp : putR zs x = zs ++ recR x := by unfold putR; rw [if_pos hok]
    have hcnt := ids_count hok
    have hS := landSummed x K k W1 hx1 hok
    have hrl := rec_len x
    rw [hok] at HR
    unfold GotBytes
    rw [hp, List.length_append, hz, hrl]
    rw [hm] at HR hS hW b1 hcnt ⊢
    have HS := Lib.hid hS
    have HB := Lib.hid hb1
    have H1 := Lib.hid h1
    have hm64 : m ≤ 64 := by omega
    clear hS hb1 hx1 h1 hp hrl hz hcnt
    have hwf := Lib.hid (u8_all (body_bytes hok))
    have hwf2 := Lib.hid (u8_all (rec_bytes hok))
    go_enter Try.func31, Try.ntmps31
    go_wp2_with fail
    refine HR.out.mono ?_
    rintro e w' ⟨rfl, rfl⟩
    go_wp2_with fail
    refine HS.out.mono ?_
    intro e w2 hmade
    obtain ⟨A2, c2, rfl, hr2, hc2, hm2, -, -, hB2⟩ := made_slice hmade hwf.out
    clear hmade
    have FP := Lib.hid (sumPut A2 (10 + m) c2 (bodyR x) w2 hc2 hm2 (by omega) hr2)
    clear hr2
    go_wp2_with fail
    refine FP.out.mono ?_
    intro e w3 hmade
    obtain ⟨A3, c3, rfl, hr3, hc3, hm3, -, -, hB3⟩ := made_slice hmade hwf2.out
    clear hmade FP
    have hB4 : Below w.heap.size w w3 := (HB.out.trans (hB2.mono HB.out.size)).trans (hB3.mono (Nat.le_trans HB.out.size hB2.size))
    have hB5 : Below w.heap.size w (w3.alloc (.cells #[.slice A n c, .slice A3 (10 + m + 4) c3] 22)) := hB4.alloc hB4.size _
    have FC := Lib.hid (concat2 w3.heap.size A A3 n c (10 + m + 4) c3 zs (recR x) (w3.alloc (.cells #[.slice A n c, .slice A3 (10 + m + 4) c3] 22)) (box_cell 0 _ rfl) (box_cell 1 _ rfl) ((H1.out.below (by rw [hs1]; exact (hB2.mono (by omega)).trans (hB3.mono (by have := hB2.size; omega)))).alloc _) (hr3.alloc _) (by omega) (by omega))
    go_wp2_with fail
    refine FC.out.mono ?_
    intro e w5 hmade
    obtain ⟨v5, rfl, hown, hB6⟩ := made_in hB5 hmade
    go_wp2
    go_ret
    exact ⟨_, rfl, row_more (by omega) rfl hown, hB6⟩
  · have hok' : idsOk x.ids 64 = false := by simpa using hok
    have hp : putR zs x = zs := by unfold putR; rw [if_neg hok]
    rw [hok'] at HR
    unfold GotBytes
    rw [hp, hz]
    rw [hm] at HR hW b1 ⊢
    have FC := Lib.hid (clone A n c zs W1 hA hnc (by omega) h1)
    have HB := Lib.hid hb1
    clear hb1 hx1 h1 hp hz
    go_enter Try.func31, Try.ntmps31
    go_wp2_with fail
    refine HR.out.mono ?_
    rintro e w' ⟨rfl, rfl⟩
    go_wp2_with fail
    refine FC.out.mono ?_
    intro e w5 hmade
    obtain ⟨v5, rfl, hown, hB6⟩ := made_in HB.out hmade
    go_wp2
    go_ret
    exact ⟨_, rfl, hown, hB6⟩
end Go.Proofs.Ytbbjoffknoaoiaa.Record
