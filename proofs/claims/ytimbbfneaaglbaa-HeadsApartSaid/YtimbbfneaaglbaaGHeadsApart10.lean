/-
  A source of bytes as plain lists: what a Read tells. A block of the reference's source. By an AI agent.
  The reference's pool of heads in memory (stage 13): what it holds, and what leaves it. By an AI agent.
  The walks of the reference's Has and Count, and of slices.Index of bools (stage 13). By an AI agent.
  The walk of the reference's Cells (stage 13). By an AI agent.
-/
import Derived.Test.YtimbbfneaaglbaaGHeadsApart9
import Derived.Test.YtimbbfneaaglbaaGHeadsApart5
namespace Go.Proofs.Ytimbbfneaaglbaa.Src
open Go.RowKit Go.Proofs.Ytimbbfneaaglbaa.Ints Go.Proofs.Ytimbbfneaaglbaa.Mem

/-- From where on bytes can't be read: the length, if there is no fault. -/
def faultP (n : Nat) (fault : Int) : Nat := if fault < 0 ∨ (n : Int) < fault then n else fault.toNat
theorem fault_le (n : Nat) (fault : Int) : faultP n fault ≤ n := by unfold faultP; split <;> omega
/-- A Read's error. -/
def readE (n f : Nat) (p most : Int) : Nat := if p < 0 ∨ most < 1 then 1 else if (n : Int) ≤ p then 13 else if (f : Int) ≤ p then 10 else 0
/-- The script's limit. -/
def limI (sc : List Int) (N : Nat) (m : Int) : Int := if N < sc.length then min m (max 1 (sc[N]?.getD 0)) else m
def readK (f : Nat) (sc : List Int) (N : Nat) (p most : Int) : Nat := (limI sc N (min most ((f : Int) - p))).toNat
/-- What a Read tells. -/
def readL (bs : List Int) (f : Nat) (sc : List Int) (N : Nat) (p most : Int) : List Int := if readE bs.length f p most = 0 then (bs.drop p.toNat).take (readK f sc N p most) else []
/-- How many Reads told bytes, behind it. -/
def readN (n f N : Nat) (p most : Int) : Nat := if readE n f p most = 0 then N + 1 else N
theorem read_zero {n f : Nat} {p most : Int} (h : readE n f p most = 0) : 0 ≤ p ∧ 1 ≤ most ∧ p < n ∧ p < f := by
  unfold readE at h
  split at h
  · exact absurd h (by decide)
  · split at h
    · exact absurd h (by decide)
    · split at h
      · exact absurd h (by decide)
      · omega
theorem lim_bd (sc : List Int) (N : Nat) {m : Int} (hm : 1 ≤ m) : 1 ≤ limI sc N m ∧ limI sc N m ≤ m := by unfold limI; split <;> omega
theorem readK_bd {n f : Nat} (sc : List Int) (N : Nat) {p most : Int} (_hf : f ≤ n) (h : readE n f p most = 0) : 1 ≤ readK f sc N p most ∧ p.toNat + readK f sc N p most ≤ f ∧ (readK f sc N p most : Int) = limI sc N (min most ((f : Int) - p)) ∧ (readK f sc N p most : Int) ≤ most := by
  obtain ⟨h1, h2, h3, h4⟩ := read_zero h
  have := lim_bd sc N (m := min most ((f : Int) - p)) (by omega)
  unfold readK
  omega
theorem readL_len {bs : List Int} {f : Nat} (sc : List Int) (N : Nat) {p most : Int} (hf : f ≤ bs.length) (h : readE bs.length f p most = 0) : (readL bs f sc N p most).length = readK f sc N p most := by
  have := readK_bd sc N hf h
  unfold readL
  rw [if_pos h, List.length_take, List.length_drop]
  omega
theorem readL_none {bs : List Int} {f : Nat} {sc : List Int} {N : Nat} {p most : Int} (h : readE bs.length f p most ≠ 0) : readL bs f sc N p most = [] := by unfold readL; rw [if_neg h]
theorem readL_bytes {bs : List Int} {f : Nat} {sc : List Int} {N : Nat} {p most : Int} (hb : ∀ z ∈ bs, (Lit.int .u8 z).wf = true) : ∀ z ∈ readL bs f sc N p most, (Lit.int .u8 z).wf = true := by
  intro z hz
  unfold readL at hz
  split at hz
  · exact hb z (List.mem_of_mem_drop (List.mem_of_mem_take hz))
  · cases hz

theorem rd_grown {k : IntKind} {w w' : World} {A : Option Addr} {n : Nat} {zs : List Int} {row : Option Nat} (h : Rd k w A n zs) (hg : w.grownBy w' row) (hne : ∀ a, A = some a → 0 < n → some a.block ≠ row) : Rd k w' A n zs := by
  rcases Nat.eq_zero_or_pos n with h0 | h0
  · subst h0
    rw [List.eq_nil_of_length_eq_zero h.len]
    exact Rd.nil _ _ _
  · exact h.grown hg (fun a e => hne a e h0)
theorem rd_lt {k : IntKind} {w : World} {A : Option Addr} {n : Nat} {zs : List Int} (h : Rd k w A n zs) : ∀ a, A = some a → 0 < n → a.block < w.heap.size := by
  intro a e h0
  obtain ⟨b, off, e2, hc⟩ := h.cell h0
  rw [e] at e2
  injection e2 with e2
  subst e2
  exact World.block_lt_of_cell? w _ (hc 0 h0)
/-- A source of four cells in the block g: bytes, script, fault, how many Reads told bytes; what the first two read as lies in blocks of S. -/
structure Src4 (S : Nat → Prop) (w : World) (g : Nat) (bs sc : List Int) (f N : Nat) : Prop where
  ex : ∃ A c B d, Blk w g [.slice A bs.length c, .slice B sc.length d, .int .i64 (f : Nat), .int .i64 (N : Nat)] ∧ Rd .u8 w A bs.length bs ∧ bs.length ≤ c ∧ c ≤ maxLen ∧ Rd .i64 w B sc.length sc ∧ sc.length ≤ maxLen ∧
    (∀ a, A = some a → 0 < bs.length → S a.block) ∧ (∀ a, B = some a → 0 < sc.length → S a.block)
  ne : ¬ S g
  le : f ≤ bs.length
theorem Src4.lt {S : Nat → Prop} {w : World} {g : Nat} {bs sc : List Int} {f N : Nat} (h : Src4 S w g bs sc f N) : g < w.heap.size := by
  obtain ⟨A, c, B, d, h1, -⟩ := h.ex
  exact h1.1
theorem Src4.kept {S : Nat → Prop} {w w' : World} {g : Nat} {bs sc : List Int} {f N : Nat} {row : Option Nat} (h : Src4 S w g bs sc f N) (hg : w.grownBy w' row) (hne : some g ≠ row) (hS : ∀ b, S b → some b ≠ row) : Src4 S w' g bs sc f N := by
  obtain ⟨A, c, B, d, h1, h2, h3, h4, h5, h6, h7, h8⟩ := h.ex
  exact ⟨⟨A, c, B, d, h1.grown hg hne, rd_grown h2 hg (fun a e h0 => hS _ (h7 a e h0)), h3, h4, rd_grown h5 hg (fun a e h0 => hS _ (h8 a e h0)), h6, h7, h8⟩, h.ne, h.le⟩
theorem Src4.below {S : Nat → Prop} {w w' : World} {g : Nat} {bs sc : List Int} {f N : Nat} (h : Src4 S w g bs sc f N) (hb : Below w.heap.size w w') : Src4 S w' g bs sc f N := by
  obtain ⟨A, c, B, d, h1, h2, h3, h4, h5, h6, h7, h8⟩ := h.ex
  exact ⟨⟨A, c, B, d, h1.later hb, h2.below hb, h3, h4, h5.below hb, h6, h7, h8⟩, h.ne, h.le⟩
theorem Src4.mono {S S' : Nat → Prop} {w : World} {g : Nat} {bs sc : List Int} {f N : Nat} (h : Src4 S w g bs sc f N) (hs : ∀ b, S b → S' b) (hg : ¬ S' g) : Src4 S' w g bs sc f N := by
  obtain ⟨A, c, B, d, h1, h2, h3, h4, h5, h6, h7, h8⟩ := h.ex
  exact ⟨⟨A, c, B, d, h1, h2, h3, h4, h5, h6, fun a e h0 => hs _ (h7 a e h0), fun a e h0 => hs _ (h8 a e h0)⟩, hg, h.le⟩
theorem grown_cell (w : World) (p : Addr) (u : Value) : w.grownBy (w.setCell p u) (some p.block) :=
  ⟨rfl, rfl, rfl, by simp [World.setCell], fun k _ hne => Below.heap_setCell w p u k (fun e => hne (by rw [e]))⟩
theorem grown_trans {w w1 w2 : World} {row : Option Nat} (h : w.grownBy w1 row) (k : w1.grownBy w2 row) : w.grownBy w2 row :=
  ⟨k.os.trans h.os, k.tape.trans h.tape, k.output.trans h.output, Nat.le_trans h.size k.size, fun b hb hne => (k.block b (Nat.lt_of_lt_of_le hb h.size) hne).trans (h.block b hb hne)⟩
theorem grown_below {w w' : World} (h : Below w.heap.size w w') (row : Option Nat) : w.grownBy w' row := ⟨h.os, h.tape, h.output, h.size, fun b hb _ => h.block b hb⟩
theorem below_grown {B : Nat} {w w' : World} {g : Nat} (h : w.grownBy w' (some g)) (hB : B ≤ w.heap.size) (hg : B ≤ g) : Below B w w' := ⟨h.os, h.tape, h.output, h.size, fun b hb => h.block b (by omega) (fun e => by injection e with e; omega)⟩
/-- One Read more. -/
theorem Src4.step {S : Nat → Prop} {w : World} {g : Nat} {bs sc : List Int} {f N : Nat} (h : Src4 S w g bs sc f N) : Src4 S (w.setCell ⟨g, 3, none⟩ (.int .i64 ((N : Int) + 1))) g bs sc f (N + 1) := by
  obtain ⟨A, c, B, d, h1, h2, h3, h4, h5, h6, h7, h8⟩ := h.ex
  have hgr := grown_cell w ⟨g, 3, none⟩ (.int .i64 ((N : Int) + 1))
  have off : ∀ a : Addr, S a.block → some a.block ≠ some g := fun a ha e => by
    injection e with e
    rw [e] at ha
    exact h.ne ha
  have hst := h1.set 3 (.int .i64 ((N : Int) + 1)) (by simp)
  refine ⟨⟨A, c, B, d, ?_, rd_grown h2 hgr (fun a e h0 => off a (h7 a e h0)), h3, h4, rd_grown h5 hgr (fun a e h0 => off a (h8 a e h0)), h6, h7, h8⟩, h.ne, h.le⟩
  have e : ((N + 1 : Nat) : Int) = (N : Int) + 1 := by omega
  rw [e]
  simpa using hst
theorem slice_midB {P : Program} (t : TypeId) (ht : P.underlying t = some (.slice (P.elem t))) (size : Nat) (hs : (P.info? (P.elem t)).map (·.size) = some size) (A : Option Addr) (n cap k m : Nat) (hk : k ≤ m) (hm : m ≤ cap) (W : World) :
    (Instr.slice t (.slice A n cap) (some (.int .i64 (k : Int))) (some (.int .i64 (m : Int))) none).run P W = .ok (.slice (fromAddr A cap k size) (m - k) (cap - k)) W := by
  rw [run_slice_lh W t A n cap ht .i64 .i64 (k : Int) (m : Int) (by omega) (by omega) (by omega)]
  obtain ⟨i, hi, hz⟩ := Option.map_eq_some_iff.1 hs
  simp [sizeOf, typeInfo, hi, hz, Result.andThen, sliced, fromAddr]
/-- Bytes from a place on, wherever they stand. -/
theorem rd_fromB {w : World} {A : Option Addr} {n c p : Nat} {zs : List Int} (h : Rd .u8 w A n zs) (hnc : n ≤ c) (hp : p ≤ n) (hn : 0 < n) : Rd .u8 w (fromAddr A c p 1) (n - p) (zs.drop p) ∧ ∀ a, fromAddr A c p 1 = some a → ∃ a', A = some a' ∧ a.block = a'.block := by
  obtain ⟨b, off, rfl, -⟩ := h.cell hn
  have hd := h.drop hp
  unfold fromAddr
  split
  · have e : n - p = 0 := by omega
    rw [e] at hd ⊢
    rw [List.eq_nil_of_length_eq_zero hd.len]
    exact ⟨Rd.nil _ _ _, fun a h => ⟨_, rfl, by cases h; rfl⟩⟩
  · have e : (⟨b, off, none⟩ : Addr).add (p * 1) = ⟨b, off + p, none⟩ := by unfold Addr.add; split <;> simp_all
    refine ⟨?_, fun a h => ⟨_, rfl, by rw [← Option.some.inj h]; show ((⟨b, off, none⟩ : Addr).add (p * 1)).block = b; rw [e]⟩⟩
    show Rd .u8 w (some ((⟨b, off, none⟩ : Addr).add (p * 1))) _ _
    rw [e]
    exact hd
end Go.Proofs.Ytimbbfneaaglbaa.Src

namespace Go.Proofs.Ytimbbfneaaglbaa.Heads
open Go.RowKit Go.Proofs.Ytimbbfneaaglbaa.Ints Go.Proofs.Ytimbbfneaaglbaa.Mem Go.Proofs.Ytimbbfneaaglbaa.Trace Go.Proofs.Ytimbbfneaaglbaa.Record Go.Proofs.Ytimbbfneaaglbaa.Log Go.Proofs.Ytimbbfneaaglbaa.Src

/-- Only blocks of D are stored into. -/
structure Left (D : Nat → Prop) (w w' : World) : Prop where
  os : w'.os = w.os
  tape : w'.tape = w.tape
  output : w'.output = w.output
  size : w.heap.size ≤ w'.heap.size
  block : ∀ q, q < w.heap.size → ¬ D q → w'.heap[q]? = w.heap[q]?
theorem Left.refl (D : Nat → Prop) (w : World) : Left D w w := ⟨rfl, rfl, rfl, Nat.le_refl _, fun _ _ _ => rfl⟩
theorem Left.trans {D D1 : Nat → Prop} {w w1 w2 : World} (h : Left D w w1) (h2 : Left D1 w1 w2) (hd : ∀ q, D1 q → D q ∨ w.heap.size ≤ q) : Left D w w2 :=
  ⟨h2.os.trans h.os, h2.tape.trans h.tape, h2.output.trans h.output, Nat.le_trans h.size h2.size, fun q hq hn => (h2.block q (Nat.lt_of_lt_of_le hq h.size) (fun e => (hd q e).elim hn (fun e => by omega))).trans (h.block q hq hn)⟩
theorem Left.of_below {D : Nat → Prop} {w w' : World} (h : Below w.heap.size w w') : Left D w w' := ⟨h.os, h.tape, h.output, h.size, fun q hq _ => h.block q hq⟩
theorem Left.of_grown {D : Nat → Prop} {w w' : World} {row : Option Nat} (h : w.grownBy w' row) (hd : ∀ q, row = some q → D q) : Left D w w' := ⟨h.os, h.tape, h.output, h.size, fun q hq hn => h.block q hq (fun e => hn (hd q e.symm))⟩
theorem Left.below {D : Nat → Prop} {B : Nat} {w w' : World} (h : Left D w w') (hd : ∀ q, D q → B ≤ q) (hB : B ≤ w.heap.size) : Below B w w' := ⟨h.os, h.tape, h.output, h.size, fun q hq => h.block q (by omega) (fun e => by have := hd q e; omega)⟩
theorem own_at {w w' : World} {base : Nat} {e : TypeId} {size : Nat} {v : Value} {n : Nat} {xs : List Value} (h : w.ownsRow base e size v n xs) (hk : ∀ q, v.ownBlock = some q → w'.heap[q]? = w.heap[q]?) : w'.ownsRow base e size v n xs := by
  refine ⟨h.1, ?_⟩
  rcases h.2 with h2 | ⟨g, cap, cur, rfl, h4, h5, h6⟩
  · exact .inl h2
  · exact .inr ⟨g, cap, cur, rfl, h4, (hk g rfl).trans h5, h6⟩
theorem strs_at {w w' : World} {A : Option Addr} {l : List (List UInt8)} (h : Strs w A l) (hk : ∀ a, A = some a → 0 < l.length → w'.heap[a.block]? = w.heap[a.block]?) : Strs w' A l := fun h0 => by
  obtain ⟨b, off, h1, h2⟩ := h h0
  exact ⟨b, off, h1, fun j s hs => (World.cell?_of_block (a := ⟨b, off + j, none⟩) (hk ⟨b, off, none⟩ h1 h0)).trans (h2 j s hs)⟩
/-- Rows of bools and rows of ints are apart. -/
theorem bools_apart {w : World} {B C n m : Nat} {v u : Value} {xs ys : List Value} (h : w.ownsRow B 4 1 v n xs) (h2 : w.ownsRow C 3 1 u m ys) (q : Nat) (hv : v.ownBlock = some q) : u.ownBlock ≠ some q := by
  intro hu
  rcases h.2 with ⟨rfl, -⟩ | ⟨g, c, cur, rfl, -, hq, -⟩
  · cases hv
  rcases h2.2 with ⟨rfl, -⟩ | ⟨g2, c2, cur2, rfl, -, hq2, -⟩
  · cases hu
  simp only [Value.ownBlock, Option.some.injEq] at hv hu
  subst hv
  subst hu
  rw [hq] at hq2
  injection hq2 with hq2
  injection hq2 with _ e _
  cases e
/-- The reference's pool, in the block g; all that it holds lies in blocks of D. -/
structure RP (w : World) (g : Nat) (D : Nat → Prop) (s : PS) : Prop where
  ex : ∃ NA nn nc EA ne ec v1 v2 ats, Blk w g [.slice NA nn nc, .slice EA ne ec, .int .i64 (s.er : Nat), .int .i64 s.size, v1, v2, .int .i64 (s.peak : Nat)] ∧
    TrOk (fun q => D q ∧ q < g) w NA nn nc EA ne ec s.t ∧ (∀ a, NA = some a → 0 < s.t.names.length → D a.block ∧ a.block < g) ∧
    w.ownsRow (g + 1) 4 1 v1 s.hs.length (s.hs.map fun o => Value.bool o.isSome) ∧ w.ownsRow (g + 1) 3 1 v2 s.hs.length (List.map (Value.int .i64) ats) ∧
    (∀ (i k : Nat), s.hs[i]? = some (some k) → ats[i]? = some (k : Int)) ∧ (∀ q, v1.ownBlock = some q → D q) ∧ (∀ q, v2.ownBlock = some q → D q)
  dg : D g
  lt : ∀ q, D q → q < w.heap.size
theorem RP.keep {w w' : World} {g : Nat} {D : Nat → Prop} {s : PS} (h : RP w g D s) (hk : ∀ q, D q → w'.heap[q]? = w.heap[q]?) (hs : w.heap.size ≤ w'.heap.size) : RP w' g D s := by
  obtain ⟨NA, nn, nc, EA, ne, ec, v1, v2, ats, h1, h2, h3, h4, h5, h6, h7, h8⟩ := h.ex
  refine ⟨⟨NA, nn, nc, EA, ne, ec, v1, v2, ats, h1.same hs (hk g h.dg), ?_, h3, own_at h4 (fun q hq => hk q (h7 q hq)), own_at h5 (fun q hq => hk q (h8 q hq)), h6, h7, h8⟩, h.dg, fun q hq => Nat.lt_of_lt_of_le (h.lt q hq) hs⟩
  exact ⟨h2.1, h2.2, strs_at h2.3 (fun a e h0 => hk _ (h3 a e h0).1), h2.4, h2.5.keep (fun p u hp hu => by rw [World.cell?_of_block (hk _ hp.1)]; exact hu), h2.6, h2.7⟩
theorem RP.below {w w' : World} {g : Nat} {D : Nat → Prop} {s : PS} (h : RP w g D s) (hb : Below w.heap.size w w') : RP w' g D s := h.keep (fun q hq => hb.block q (h.lt q hq)) hb.size
theorem RP.left {w w' : World} {g : Nat} {D D1 : Nat → Prop} {s : PS} (h : RP w g D s) (hl : Left D1 w w') (hd : ∀ q, D q → ¬ D1 q) : RP w' g D s := h.keep (fun q hq => hl.block q (h.lt q hq) (hd q hq)) hl.size
/-- What a call on the reference's pool leaves. -/
def Turn (w w' : World) (g : Nat) (D : Nat → Prop) (s : PS) : Prop := ∃ D', RP w' g D' s ∧ (∀ q, D' q → D q ∨ w.heap.size ≤ q) ∧ Left D w w'
theorem Turn.refl {w : World} {g : Nat} {D : Nat → Prop} {s : PS} (h : RP w g D s) : Turn w w g D s := ⟨D, h, fun _ e => .inl e, Left.refl _ _⟩
theorem Turn.trans {w w1 w2 : World} {g : Nat} {D : Nat → Prop} {s s2 : PS} (h : Turn w w1 g D s) (h2 : ∀ D', RP w1 g D' s → Turn w1 w2 g D' s2) : Turn w w2 g D s2 := by
  obtain ⟨D', h1, h3, h4⟩ := h
  obtain ⟨D2, g1, g3, g4⟩ := h2 D' h1
  refine ⟨D2, g1, fun q hq => ?_, h4.trans g4 h3⟩
  rcases g3 q hq with e | e
  · exact h3 q e
  · exact .inr (Nat.le_trans h4.size e)
theorem Turn.below {w w1 w2 : World} {g : Nat} {D : Nat → Prop} {s : PS} (h : Turn w w1 g D s) (hb : Below w1.heap.size w1 w2) : Turn w w2 g D s :=
  h.trans fun D' h1 => ⟨D', h1.below hb, fun _ e => .inl e, Left.of_below hb⟩
theorem Turn.step {w w1 w2 : World} {g : Nat} {D D1 : Nat → Prop} {s : PS} (hd : ∀ q, D1 q → D q ∨ w.heap.size ≤ q) (hl : Left D w w1) (h : Turn w1 w2 g D1 s) : Turn w w2 g D s := by
  obtain ⟨D2, g1, g3, g4⟩ := h
  refine ⟨D2, g1, fun q hq => ?_, hl.trans g4 hd⟩
  rcases g3 q hq with e | e
  · exact hd q e
  · exact .inr (Nat.le_trans hl.size e)
theorem Turn.ahead {w w1 w2 : World} {g : Nat} {D : Nat → Prop} {s : PS} (hl : Left D w w1) (h : Turn w1 w2 g D s) : Turn w w2 g D s := h.step (fun _ e => .inl e) hl
end Go.Proofs.Ytimbbfneaaglbaa.Heads

namespace Go.Proofs.Ytimbbfneaaglbaa.Heads
open Go.RowKit Go.Proofs.Ytimbbfneaaglbaa.Ints Go.Proofs.Ytimbbfneaaglbaa.Mem Go.Proofs.Ytimbbfneaaglbaa.Trace Go.Proofs.Ytimbbfneaaglbaa.Record Go.Proofs.Ytimbbfneaaglbaa.Log Go.Proofs.Ytimbbfneaaglbaa.Src

theorem bool_cell {w : World} {base g cap : Nat} {e : TypeId} {hs : List (Option Nat)} (h : w.ownsRow base e 1 (.slice (some ⟨g, 0, none⟩) hs.length cap) hs.length (hs.map fun o => Value.bool o.isSome)) {j : Nat} {o : Option Nat} (hj : hs[j]? = some o) : w.cell? ⟨g, j, none⟩ = some (.bool o.isSome) := by
  obtain ⟨h1, h2⟩ := List.getElem?_eq_some_iff.1 hj
  rw [h.cellAt j (by omega), List.getElem?_map, hj]
  rfl

end Go.Proofs.Ytimbbfneaaglbaa.Heads

namespace Go.Proofs.Ytimbbfneaaglbaa.Heads
open Go.RowKit Go.Proofs.Ytimbbfneaaglbaa.Ints Go.Proofs.Ytimbbfneaaglbaa.Mem Go.Proofs.Ytimbbfneaaglbaa.Trace Go.Proofs.Ytimbbfneaaglbaa.Record Go.Proofs.Ytimbbfneaaglbaa.Log Go.Proofs.Ytimbbfneaaglbaa.Src

theorem int_cell {w : World} {base g cap n : Nat} {e : TypeId} {zs : List Int} (h : w.ownsRow base e 1 (.slice (some ⟨g, 0, none⟩) n cap) n (zs.map (Value.int .i64))) {j : Nat} {z : Int} (hj : zs[j]? = some z) : w.cell? ⟨g, j, none⟩ = some (.int .i64 z) := by
  have hl : zs.length = n := by simpa using h.1
  obtain ⟨h1, h2⟩ := List.getElem?_eq_some_iff.1 hj
  rw [h.cellAt j (by omega), List.getElem?_map, hj]
  rfl
/-- A cell of the pool is stored into. -/
theorem RP.peak {w : World} {g : Nat} {D : Nat → Prop} {s : PS} (h : RP w g D s) (k : Nat) : Turn w (w.setCell ⟨g, 6, none⟩ (.int .i64 (k : Nat))) g D { s with peak := k } := by
  obtain ⟨NA, nn, nc, EA, ne, ec, v1, v2, ats, h1, h2, h3, h4, h5, h6, h7, h8⟩ := h.ex
  have hgr := grown_cell w ⟨g, 6, none⟩ (.int .i64 (k : Nat))
  have hoff : ∀ q, q ≠ g → (w.setCell ⟨g, 6, none⟩ (.int .i64 (k : Nat))).heap[q]? = w.heap[q]? := fun q hq => Below.heap_setCell w ⟨g, 6, none⟩ _ q hq
  refine ⟨D, ⟨⟨NA, nn, nc, EA, ne, ec, v1, v2, ats, ?_, ?_, h3, own_at h4 (fun q hq => hoff q (by have := (h4.lt q hq).1; omega)), own_at h5 (fun q hq => hoff q (by have := (h5.lt q hq).1; omega)), h6, h7, h8⟩, h.dg, fun q hq => by have := h.lt q hq; simpa using this⟩, fun q hq => .inl hq, Left.of_grown hgr (fun q e => by injection e with e; subst e; exact h.dg)⟩
  · simpa using h1.set 6 (.int .i64 (k : Nat)) (by simp)
  · exact ⟨h2.1, h2.2, strs_at h2.3 (fun a e h0 => hoff _ (by have := (h3 a e h0).2; omega)), h2.4, h2.5.keep (fun p u hp hu => by rw [World.cell?_of_block (hoff p.block (by have := hp.2; omega))]; exact hu), h2.6, h2.7⟩

end Go.Proofs.Ytimbbfneaaglbaa.Heads
