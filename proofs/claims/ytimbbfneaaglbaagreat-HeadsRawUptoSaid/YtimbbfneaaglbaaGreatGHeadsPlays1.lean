/-
  Slices of integers, as a walk needs them: a slice that reads as a list of numbers, whatever its address where it is empty; what is appended to a row of the call's own. By an AI agent.
  What walks over memory share, whatever the program: fields of structs that came in, cells behind later blocks, parts of slices, a block cell by cell, strings in rows. By an AI agent.
  Events in memory: an event by value, and its two cells; what an event that came in reads as. By an AI agent.
-/
import Derived.Below
import Derived.Laws.OwnMore
import Derived.Laws.MakeOwn
import Derived.Deep.Draws
import Derived.Lib.SlBytesConst
import Derived.Laws.BytesArg
import Derived.Laws.Strings
import Derived.OwnWalk
import Derived.WalkKit
import Derived.Test.YtimbbfneaaglbaaGreatChecked
import Derived.WalkSpells
import Derived.Lib.Hide
import Derived.Deep.Slices
import Derived.Deep.Fields
import Derived.ChangeSame
import Derived.ChangeArms
import Derived.ChangeSlices
import Derived.IntWalk
import Derived.Deep.QuietTactic
import Derived.BigQuiet
import Derived.Maps.AppendAt
import Derived.Laws.AppendOwnNone
namespace Go.Proofs.YtimbbfneaaglbaaGreat.Ints
open Go.RowKit

/-- The slice of address A and length n reads as the numbers zs of kind k. -/
def Rd (k : IntKind) (w : World) (A : Option Addr) (n : Nat) (zs : List Int) : Prop :=
  zs.length = n ∧ (∀ j, j < n → (Lit.int k (zs[j]?.getD 0)).wf = true) ∧
    (0 < n → ∃ b off, A = some ⟨b, off, none⟩ ∧ ∀ j, j < n → w.cell? ⟨b, off + j, none⟩ = some (.int k (zs[j]?.getD 0)))

theorem wf_u8 {x : Int} (h : (Lit.int .u8 x).wf = true) : 0 ≤ x ∧ x ≤ 255 := by
  simp [Lit.wf, IntKind.min, IntKind.max, IntKind.signed, IntKind.bits] at h
  omega
theorem wf_u16 {x : Int} (h : (Lit.int .u16 x).wf = true) : 0 ≤ x ∧ x ≤ 65535 := by
  simp [Lit.wf, IntKind.min, IntKind.max, IntKind.signed, IntKind.bits] at h
  omega
theorem wf_u32 {x : Int} (h : (Lit.int .u32 x).wf = true) : 0 ≤ x ∧ x ≤ 4294967295 := by
  simp [Lit.wf, IntKind.min, IntKind.max, IntKind.signed, IntKind.bits] at h
  omega
theorem wf_u64 {x : Int} (h : (Lit.int .u64 x).wf = true) : 0 ≤ x ∧ x ≤ 18446744073709551615 := by
  simp [Lit.wf, IntKind.min, IntKind.max, IntKind.signed, IntKind.bits] at h
  omega
theorem wf_i64 {x : Int} (h : (Lit.int .i64 x).wf = true) : -9223372036854775808 ≤ x ∧ x ≤ 9223372036854775807 := by
  simp [Lit.wf, IntKind.min, IntKind.max, IntKind.signed, IntKind.bits] at h
  omega
theorem u8_wf {x : Int} (h : 0 ≤ x ∧ x ≤ 255) : (Lit.int .u8 x).wf = true := by
  simp [Lit.wf, IntKind.min, IntKind.max, IntKind.signed, IntKind.bits]
  omega

theorem ret_int {k : IntKind} {a b : Int} (h : a = b) : Ending.returned (.int k a) = .returned (.int k b) := by rw [h]
theorem int_eq {k : IntKind} {a b : Int} (h : a = b) : Value.int k a = Value.int k b := by rw [h]
theorem slice_eq {A B : Option Addr} {n m c d : Nat} (h1 : A = B) (h2 : n = m) (h3 : c = d) : Value.slice A n c = Value.slice B m d := by rw [h1, h2, h3]
theorem take_snoc (l : List Int) (k : Nat) (h : k < l.length) : l.take (k + 1) = l.take k ++ [l[k]?.getD 0] := by
  rw [List.take_succ_eq_append_getElem h]; simp [List.getElem?_eq_getElem h]

section
variable {k : IntKind} {w w' : World} {A : Option Addr} {n : Nat} {zs : List Int}
theorem Rd.len (h : Rd k w A n zs) : zs.length = n := h.1
theorem Rd.wf (h : Rd k w A n zs) : ∀ j, j < n → (Lit.int k (zs[j]?.getD 0)).wf = true := h.2.1
theorem Rd.cell (h : Rd k w A n zs) : 0 < n → ∃ b off, A = some ⟨b, off, none⟩ ∧ ∀ j, j < n → w.cell? ⟨b, off + j, none⟩ = some (.int k (zs[j]?.getD 0)) := h.2.2
theorem Rd.u8 (h : Rd .u8 w A n zs) : ∀ j, j < n → 0 ≤ zs[j]?.getD 0 ∧ zs[j]?.getD 0 ≤ 255 := fun j hj => wf_u8 (h.wf j hj)
theorem Rd.u64 (h : Rd .u64 w A n zs) : ∀ j, j < n → 0 ≤ zs[j]?.getD 0 ∧ zs[j]?.getD 0 ≤ 18446744073709551615 := fun j hj => wf_u64 (h.wf j hj)
theorem Rd.nil (k : IntKind) (w : World) (A : Option Addr) : Rd k w A 0 [] := ⟨rfl, fun j h => by omega, fun h => by omega⟩
theorem Rd.keep (h : Rd k w A n zs) (hk : ∀ p u, A.map (·.block) = some p.block → w.cell? p = some u → w'.cell? p = some u) : Rd k w' A n zs :=
  ⟨h.1, h.2.1, fun h0 => by
    obtain ⟨b, off, rfl, hc⟩ := h.2.2 h0
    exact ⟨b, off, rfl, fun j hj => hk _ _ rfl (hc j hj)⟩⟩
theorem Rd.below (h : Rd k w A n zs) (hb : Below w.heap.size w w') : Rd k w' A n zs :=
  h.keep fun p _ _ hu => (hb.cell (World.block_lt_of_cell? w p hu)).trans hu
theorem Rd.grown {row : Option Nat} (h : Rd k w A n zs) (hg : w.grownBy w' row) (hne : ∀ a, A = some a → some a.block ≠ row) : Rd k w' A n zs :=
  h.keep fun p u hp hu => hg.cell hu (by
    cases A with
    | none => simp at hp
    | some a => have := hne a rfl; simp at hp; rw [← hp]; exact this)
theorem Rd.alloc (h : Rd k w A n zs) (o : Obj) : Rd k (w.alloc o) A n zs := h.keep fun _ _ _ hu => Lib.cell?_alloc_marked o hu
theorem Rd.drew (h : Rd k w A n zs) : Rd k w.drew A n zs := h
theorem Rd.drewN (h : Rd k w A n zs) (q : Nat) : Rd k (w.drewN q) A n zs := h.keep fun _ _ _ hu => by simpa using hu
theorem Rd.take (h : Rd k w A n zs) {m : Nat} (hm : m ≤ n) : Rd k w A m (zs.take m) :=
  ⟨by rw [List.length_take, h.1]; omega, fun j hj => by rw [List.getElem?_take_of_lt hj]; exact h.2.1 j (by omega), fun h0 => by
    obtain ⟨b, off, rfl, hc⟩ := h.2.2 (by omega)
    exact ⟨b, off, rfl, fun j hj => by rw [List.getElem?_take_of_lt hj]; exact hc j (by omega)⟩⟩
theorem Rd.drop {b off : Nat} (h : Rd k w (some ⟨b, off, none⟩) n zs) {m : Nat} (hm : m ≤ n) : Rd k w (some ⟨b, off + m, none⟩) (n - m) (zs.drop m) :=
  ⟨by rw [List.length_drop, h.1], fun j hj => by rw [List.getElem?_drop]; exact h.2.1 _ (by omega), fun h0 => by
    obtain ⟨b', off', e, hc⟩ := h.2.2 (by omega)
    simp only [Option.some.injEq, Addr.mk.injEq, and_true] at e
    obtain ⟨rfl, rfl⟩ := e
    exact ⟨_, _, rfl, fun j hj => by rw [List.getElem?_drop, Nat.add_assoc]; exact hc _ (by omega)⟩⟩
/-- What the shell tells of a slice of integers that came in. -/
theorem rd_of {len cap : Nat} (h : (A = none ∧ len = 0 ∧ cap = 0 ∧ zs = []) ∨
      ∃ x, A = some x ∧ len ≤ cap ∧ cap ≤ maxLen ∧ zs.length = cap ∧ (∀ i, i < zs.length → w.cell? (x.add i) = some (.int k (zs.getD i 0))) ∧ ∀ n ∈ zs, (Lit.int k n).wf = true) :
    Rd k w A len (zs.take len) ∧ len ≤ cap ∧ cap ≤ maxLen := by
  rcases h with ⟨rfl, rfl, rfl, rfl⟩ | ⟨x, rfl, hl, hm, hz, hcell, hwf⟩
  · exact ⟨Rd.nil _ _ _, Nat.le_refl _, by decide⟩
  · have e : ∀ j, j < len → (zs.take len)[j]?.getD 0 = zs.getD j 0 := fun j hj => by
      rw [List.getElem?_take_of_lt hj]; simp [List.getD]
    refine ⟨⟨by rw [List.length_take]; omega, fun j hj => ?_, fun h0 => ?_⟩, hl, hm⟩
    · rw [e j hj]
      have hj' : j < zs.length := by omega
      have := hwf zs[j] (List.getElem_mem hj')
      simpa only [List.getD, List.getElem?_eq_getElem hj', Option.getD_some] using this
    · obtain ⟨b, off, spot⟩ := x
      have hc := hcell 0 (by omega)
      have hspot : spot = none := by simpa [Addr.add] using World.cell?_spot hc
      subst hspot
      refine ⟨b, off, rfl, fun j hj => ?_⟩
      rw [e j hj, ← hcell j (by omega)]
      congr 1
      unfold Addr.add
      split <;> simp_all
/-- A row that was laid just now. -/
theorem Rd.lit (w : World) (T : TypeId) (fr : Nat × Nat) (zs : List Int) (hz : ∀ z ∈ zs, (Lit.int k z).wf = true) :
    Rd k (w.alloc (.cells (zs.map (Value.int k)).toArray T fr)) (some ⟨w.heap.size, 0, none⟩) zs.length zs :=
  ⟨rfl, fun j hj => by rw [List.getElem?_eq_getElem hj]; exact hz _ (List.getElem_mem hj), fun _ => ⟨_, _, rfl, fun j hj => by
    rw [Nat.zero_add, cell_of_row _ w.heap.size j _ T fr (heap_alloc_new w _)]
    simp [List.getElem?_eq_getElem hj]⟩⟩
/-- A row of the call's own. -/
theorem Rd.own {base c : Nat} {e : TypeId} (h : w.ownsRow base e 1 (.slice A n c) n (zs.map (Value.int k))) (hz : ∀ z ∈ zs, (Lit.int k z).wf = true) : Rd k w A n zs := by
  have hl : zs.length = n := by simpa using h.1
  refine ⟨hl, fun j hj => ?_, fun h0 => ?_⟩
  · rw [List.getElem?_eq_getElem (by omega)]; exact hz _ (List.getElem_mem _)
  · have h' := h
    rcases h.2 with ⟨_, h2⟩ | ⟨g, cap, cur, h2, _⟩
    · omega
    · injection h2 with h3 _ h4
      subst h3; subst h4
      refine ⟨_, _, rfl, fun j hj => ?_⟩
      rw [Nat.zero_add, h'.cellAt j (by omega)]
      have hj' : j < zs.length := by omega
      simp [List.getElem?_eq_getElem hj']
end

section
variable {w : World} {base : Nat} {e : TypeId} {v : Value} {n : Nat} {xs : List Value} {k : IntKind} {zs : List Int}
theorem own_form (h : w.ownsRow base e 1 v n xs) (hn : 0 < n) : ∃ g cap, v = .slice (some ⟨g, 0, none⟩) n cap ∧ base ≤ g ∧ g < w.heap.size ∧ n ≤ cap ∧ cap ≤ maxLen := by
  have hlt := h.lt
  rcases h.2 with ⟨_, h2⟩ | ⟨g, cap, cur, rfl, _, _, h3, h4, _⟩
  · omega
  · exact ⟨g, cap, rfl, (hlt g rfl).1, (hlt g rfl).2, h3, h4⟩
theorem own_slice (h : w.ownsRow base e 1 v n xs) : ∃ A c, v = .slice A n c ∧ n ≤ c ∧ c ≤ maxLen ∧ (A = none → c = 0) ∧ (∀ a, A = some a → base ≤ a.block ∧ a.block < w.heap.size) := by
  have hlt := h.lt
  rcases h.2 with ⟨rfl, rfl⟩ | ⟨g, cap, cur, rfl, _, _, h3, h4, _⟩
  · exact ⟨none, 0, rfl, Nat.le_refl _, (by decide), (fun _ => rfl), (fun a h => by cases h)⟩
  · exact ⟨_, cap, rfl, h3, h4, (fun h => by cases h), (fun a h => by injection h with h; subst h; exact hlt g rfl)⟩
theorem own_cell {g cap : Nat} (h : w.ownsRow base e 1 (.slice (some ⟨g, 0, none⟩) n cap) n (zs.map (Value.int k))) {j : Nat} (hj : j < n) : w.cell? ⟨g, j, none⟩ = some (.int k (zs[j]?.getD 0)) := by
  have hl : zs.length = n := by simpa using h.1
  rw [h.cellAt j (by omega)]
  have hj' : j < zs.length := by omega
  simp [List.getElem?_eq_getElem hj']
theorem own_set {g cap : Nat} (h : w.ownsRow base e 1 (.slice (some ⟨g, 0, none⟩) n cap) n (zs.map (Value.int k))) (j : Nat) (y : Int) :
    (w.setCell ⟨g, j, none⟩ (.int k y)).ownsRow base e 1 (.slice (some ⟨g, 0, none⟩) n cap) n ((zs.set j y).map (Value.int k)) := by
  rw [List.map_set]; exact (h.stored j _).1
theorem wf_set {j : Nat} {y : Int} (h : ∀ z ∈ zs, (Lit.int k z).wf = true) (hy : (Lit.int k y).wf = true) : ∀ z ∈ zs.set j y, (Lit.int k z).wf = true := by
  intro z hz
  rcases List.mem_or_eq_of_mem_set hz with h1 | rfl
  · exact h z h1
  · exact hy
theorem Rd.all {A : Option Addr} (h : Rd k w A n zs) : ∀ z ∈ zs, (Lit.int k z).wf = true := by
  intro z hz
  obtain ⟨j, hj, rfl⟩ := List.getElem_of_mem hz
  have := h.wf j (by have := h.len; omega)
  rwa [List.getElem?_eq_getElem hj] at this
end

section
variable {P : Program} {w : World}
theorem one_cell (k : IntKind) (zs : List Int) : ∀ u ∈ zs.map (Value.int k), u.oneCell' = true := by
  intro u hu
  obtain ⟨z, _, rfl⟩ := List.mem_map.1 hu
  rfl
/-- 'append(v, xs...)': v is the call's own, xs reads as numbers, whatever its address where it is empty. -/
theorem run_append_ints (k : IntKind) (base : Nat) (t ty e : TypeId) (i : TypeInfo) (bytes : Nat) (ht : P.underlying t = some (.slice e)) (hi : P.info? e = some i) (hz : i.zero = some (.int k 0))
    (hsize : i.size = 1) (hby : i.bytes = bytes) (v : Value) (n : Nat) (zs : List Int) (hown : w.ownsRow base e 1 v n (zs.map (Value.int k)))
    (A : Option Addr) (m c : Nat) (ys : List Int) (hr : Rd k w A m ys) (h63 : n + m ≤ maxLen) (hbytes : (n + m) * bytes ≤ 140737488355328) (hbase : base ≤ w.heap.size) :
    ∃ v' w', (Builtin.append_ #[t, t] ty #[v, .slice A m c]).run P w = .ok v' w' ∧ w'.ownsRow base e 1 v' (n + m) ((zs ++ ys).map (Value.int k)) ∧ w.grownBy w' v.ownBlock := by
  have hone := one_cell k ys
  cases A with
  | some ad =>
    have hnews : ∀ j u, (ys.map (Value.int k))[j]? = some u → w.cell? (ad.add j) = some u := fun j u hu => by
      have hj : j < ys.length := by
        rcases Nat.lt_or_ge j ys.length with h | h
        · exact h
        · simp [List.getElem?_eq_none h] at hu
      obtain ⟨b, off, e, hc⟩ := hr.cell (by have := hr.len; omega)
      injection e with e
      subst e
      have h1 := hc j (by have := hr.len; omega)
      have h2 : (⟨b, off, none⟩ : Addr).add j = ⟨b, off + j, none⟩ := by unfold Addr.add; split <;> simp_all
      rw [h2, h1]
      simpa [List.getElem?_eq_getElem hj] using hu
    obtain ⟨v', w', hrun, ho, hg, _⟩ := run_append_own (P := P) w base t ty e i (.int k 0) 1 bytes ht hi hz hsize hby rfl (by decide) v n _ hown ad m c (ys.map (Value.int k)) (by simp [hr.len]) hnews hone h63 hbytes hbase
    exact ⟨v', w', hrun, by rw [List.map_append]; exact ho, hg⟩
  | none =>
    have hm : m = 0 := by
      rcases Nat.eq_zero_or_pos m with h | h
      · exact h
      · obtain ⟨_, _, h', _⟩ := hr.cell h
        cases h'
    subst hm
    have hy : ys = [] := List.eq_nil_of_length_eq_zero hr.len
    subst hy
    refine ⟨v, w, ?_, by simpa using hown, World.grownBy.refl w _⟩
    rcases hown.2 with ⟨rfl, rfl⟩ | ⟨g, cap, cur, rfl, _, _, hnc, _⟩
    · simp [Builtin.append_, run_underlying ht, sizeOf, typeInfo, hi, Builtin.lenOf, Builtin.firstCells]
    · simp [Builtin.append_, run_underlying ht, sizeOf, typeInfo, hi, Builtin.lenOf, Builtin.firstCells, hnc, storeCells]

theorem wpList_append_ints {ops : Array Oper} {rest : List Oper} {o : Oper} {a : Act} {Q : Exit → Act → World → Prop} (hgd : o.guard = none) (s x : Operand) (t : TypeId)
    (ho : o.op = .call { callee := .builtin .append, args := #[s, x], argTypes := #[t, t] }) (k : IntKind) (base : Nat) (e : TypeId) (i : TypeInfo) (bytes : Nat)
    (ht : P.underlying t = some (.slice e)) (hi : P.info? e = some i) (hz : i.zero = some (.int k 0)) (hsize : i.size = 1) (hby : i.bytes = bytes)
    (v : Value) (n : Nat) (zs : List Int) (hs : a.eval s = v) (hown : w.ownsRow base e 1 v n (zs.map (Value.int k)))
    (A : Option Addr) (m c : Nat) (ys : List Int) (hx : a.eval x = .slice A m c) (hr : Rd k w A m ys)
    (h63 : n + m ≤ maxLen) (hbytes : (n + m) * bytes ≤ 140737488355328) (hbase : base ≤ w.heap.size)
    (h : ∀ v' w', w'.ownsRow base e 1 v' (n + m) ((zs ++ ys).map (Value.int k)) → w.grownBy w' v.ownBlock → wpList P ops Q rest (a.put o.dst v') w') : wpList P ops Q (o :: rest) a w := by
  refine wpList_plain hgd fun K hK => ?_
  obtain ⟨v', w', hrun, h1, h2⟩ := run_append_ints (P := P) k base t o.type e i bytes ht hi hz hsize hby v n zs hown A m c ys hr h63 hbytes hbase
  unfold Oper.wp
  simp [execOp, ho, resolve, invoke, builtin, hs, hx, hrun, Result.andThen]
  exact hK _ _ (h v' w' h1 h2)
end

/-! ### bytes as strings -/
/-- 'string(xs)' -/
theorem run_str {P : Program} {W : World} (src e dst : TypeId) (hs : P.underlying src = some (.slice e)) (he : P.underlying e = some (.int .u8)) (hd : P.underlying dst = some .string)
    {A : Option Addr} {n c : Nat} {zs : List Int} (h : Rd .u8 W A n zs) : (convert src dst (.slice A n c)).run P W = .ok (.string (strOfNums zs)) W := by
  rcases Nat.eq_zero_or_pos n with h0 | h0
  · subst h0
    have hz : zs = [] := List.eq_nil_of_length_eq_zero h.len
    subst hz
    cases A with
    | none => exact run_convert_bytes_nil W src e hs he 0 c dst hd
    | some a =>
      have hl : (loadCells a 0).run P W = .ok (([] : List Int).map (Value.int .u8)).toArray W := by
        have := run_loadCells_list (P := P) W a [] (fun j v hj => by simp at hj)
        simpa using this
      rw [run_convert_bytes_string W src dst e _ 0 c hs he hd, run_bytesToString W a 0 c [] hl]
      rfl
  · obtain ⟨b, off, rfl, hc⟩ := h.cell h0
    exact run_convert_bytes_arg W src e hs he b off n c zs h.len (fun i hi => by rw [hc i hi]; simp [List.getD]) dst hd
theorem str_inj {xs ys : List Int} (hx : ∀ z ∈ xs, (Lit.int .u8 z).wf = true) (hy : ∀ z ∈ ys, (Lit.int .u8 z).wf = true) (h : strOfNums xs = strOfNums ys) : xs = ys := by
  have h1 : xs.map (fun n => UInt8.ofNat n.toNat) = ys.map (fun n => UInt8.ofNat n.toNat) := by
    rw [← strOfNums_data, ← strOfNums_data, h]
  have back : ∀ l : List Int, (∀ z ∈ l, (Lit.int .u8 z).wf = true) → (l.map (fun n => UInt8.ofNat n.toNat)).map (fun b => (b.toNat : Int)) = l := by
    intro l hl
    rw [List.map_map]
    conv => rhs; rw [← List.map_id l]
    apply List.map_congr_left
    intro z hz
    have := wf_u8 (hl z hz)
    have h3 : z.toNat < 256 := by omega
    simp [Nat.mod_eq_of_lt h3]
    omega
  rw [← back xs hx, ← back ys hy, h1]

/-- Two strings as the walk compares them. -/
theorem str_same {xs ys : List Int} (hx : ∀ z ∈ xs, (Lit.int .u8 z).wf = true) (hy : ∀ z ∈ ys, (Lit.int .u8 z).wf = true) : ((strOfNums xs).toList == (strOfNums ys).toList) = decide (xs = ys) := by
  rw [Bool.eq_iff_iff, beq_iff_eq, decide_eq_true_iff]
  constructor
  · intro h
    rw [ByteArray.toList_eq, ByteArray.toList_eq, strOfNums_data, strOfNums_data] at h
    refine str_inj hx hy ?_
    apply ByteArray.ext
    apply Array.toList_inj.1
    rw [strOfNums_data, strOfNums_data, h]
  · intro h; rw [h]

/-! ### quiet calls within a region that draws -/
theorem quiet_left {P : Program} {f : FuncId} {args : Array Value} {w W : World} {v : Value} (hW : ∃ k, W = w.drewN k)
    (h : Calls P f args W fun e w' => e = .returned v ∧ W = w') : Calls P f args W fun e w'' => e = .returned v ∧ ∃ m, w'' = w.drewN m :=
  h.mono fun _ _ ⟨he, hm⟩ => ⟨he, by obtain ⟨k, hk⟩ := hW; exact ⟨k, by rw [← hm, hk]⟩⟩
theorem quiet_more {P : Program} {f : FuncId} {args : Array Value} {w W : World} {v : Value} (hW : ∃ k, W = w.drewN k)
    (h : Calls P f args W fun e w' => e = .returned v ∧ ∃ q, w' = W.drewN q) : Calls P f args W fun e w'' => e = .returned v ∧ ∃ m, w'' = w.drewN m :=
  h.mono fun _ _ ⟨he, q, hm⟩ => ⟨he, by obtain ⟨k, hk⟩ := hW; exact ⟨k + q, by rw [hm, hk, World.drewN_drewN]⟩⟩

/-! ### bits of bytes -/
theorem bits_xor_u8 (a b : Nat) (ha : a < 256) (hb : b < 256) : bits .xor .u8 (a : Int) (b : Int) = ((a ^^^ b : Nat) : Int) := by
  have hx : a ^^^ b < 2 ^ 8 := Nat.xor_lt_two_pow (by omega) (by omega)
  have h1 : (BitVec.ofInt 8 (a : Int)).toNat = a := by
    rw [BitVec.ofInt_natCast, BitVec.toNat_ofNat]; exact Nat.mod_eq_of_lt (by omega)
  have h2 : (BitVec.ofInt 8 (b : Int)).toNat = b := by
    rw [BitVec.ofInt_natCast, BitVec.toNat_ofNat]; exact Nat.mod_eq_of_lt (by omega)
  show IntKind.u8.wrap ((BitVec.ofInt 8 (a : Int) ^^^ BitVec.ofInt 8 (b : Int)).toNat : Int) = _
  rw [BitVec.toNat_xor, h1, h2]
  simp only [IntKind.wrap, IntKind.bits, IntKind.signed]
  simp
  omega
theorem bits_or_u32 (a b : Nat) (ha : a < 4294967296) (hb : b < 4294967296) : bits .or .u32 (a : Int) (b : Int) = ((a ||| b : Nat) : Int) := by
  have hx : a ||| b < 2 ^ 32 := Nat.or_lt_two_pow (by omega) (by omega)
  have h1 : (BitVec.ofInt 32 (a : Int)).toNat = a := by
    rw [BitVec.ofInt_natCast, BitVec.toNat_ofNat]; exact Nat.mod_eq_of_lt (by omega)
  have h2 : (BitVec.ofInt 32 (b : Int)).toNat = b := by
    rw [BitVec.ofInt_natCast, BitVec.toNat_ofNat]; exact Nat.mod_eq_of_lt (by omega)
  show IntKind.u32.wrap ((BitVec.ofInt 32 (a : Int) ||| BitVec.ofInt 32 (b : Int)).toNat : Int) = _
  rw [BitVec.toNat_or, h1, h2]
  simp only [IntKind.wrap, IntKind.bits, IntKind.signed]
  simp
  omega
/-- A number over lower bits. -/
theorem or_low_u32 (i : Nat) (x y : Int) (hx : 0 ≤ x) (hy : 0 ≤ y) (hlt : y < ((2 ^ i : Nat) : Int)) (hs : x * ((2 ^ i : Nat) : Int) + y ≤ 4294967295) :
    bits .or .u32 (x * ((2 ^ i : Nat) : Int)) y = x * ((2 ^ i : Nat) : Int) + y := by
  obtain ⟨a, rfl⟩ := Int.eq_ofNat_of_zero_le hx
  obtain ⟨b, rfl⟩ := Int.eq_ofNat_of_zero_le hy
  have e : (a : Int) * ((2 ^ i : Nat) : Int) = ((2 ^ i * a : Nat) : Int) := by rw [Int.natCast_mul, Int.mul_comm]
  rw [e] at hs ⊢
  rw [bits_or_u32 _ _ (by omega) (by omega), ← Nat.two_pow_add_eq_or_of_lt (by omega) a, Int.natCast_add]
theorem xor_u8 (z x : Int) (hz : 0 ≤ z ∧ z ≤ 255) (hx : 0 ≤ x ∧ x ≤ 255) : (0 ≤ bits .xor .u8 z x ∧ bits .xor .u8 z x ≤ 255) ∧ (bits .xor .u8 z x = z ↔ x = 0) := by
  obtain ⟨a, rfl⟩ := Int.eq_ofNat_of_zero_le hz.1
  obtain ⟨b, rfl⟩ := Int.eq_ofNat_of_zero_le hx.1
  rw [bits_xor_u8 a b (by omega) (by omega)]
  have hlt : a ^^^ b < 2 ^ 8 := Nat.xor_lt_two_pow (by omega) (by omega)
  refine ⟨by omega, ?_⟩
  constructor
  · intro h
    have h1 : a ^^^ b = a := by omega
    have h2 : a ^^^ (a ^^^ b) = a ^^^ a := by rw [h1]
    rw [← Nat.xor_assoc, Nat.xor_self, Nat.zero_xor] at h2
    omega
  · intro h
    have : b = 0 := by omega
    subst this
    simp
end Go.Proofs.YtimbbfneaaglbaaGreat.Ints

namespace Go.Proofs.YtimbbfneaaglbaaGreat.Mem
open Go.RowKit Go.ChangeShapes Go.WideShapes Go.Deep Go.Proofs.YtimbbfneaaglbaaGreat.Ints

def small64 (x : Int) : Prop := -9223372036854775808 ≤ x ∧ x ≤ 9223372036854775807
/-- Any block. -/
def Any : Nat → Prop := fun _ => True
theorem cellsInt : Tryz.prog.cellsOf 3 = 1 := by kernel_rfl
theorem cellsInts : Tryz.prog.cellsOf 24 = 1 := by kernel_rfl
theorem field_at {fs : Array Field} {l : List (TypeId × Nat)} (h : fs.toList.map (fun f => (f.type, f.offset)) = l) {i : Nat} {t : TypeId} {o : Nat} (hi : l[i]? = some (t, o)) : ∃ f, fs[i]? = some f ∧ f.type = t ∧ f.offset = o := by
  rw [← h, List.getElem?_map] at hi
  obtain ⟨f, hf, he⟩ := Option.map_eq_some_iff.1 hi
  simp only [Prod.mk.injEq] at he
  exact ⟨f, by simpa using hf, he.1, he.2⟩
theorem one_of {cs : List Value} {o : Nat} {v : Value} (h : (cs.drop o).take 1 = [v]) : cs[o]? = some v := by
  have h1 := congrArg (·[0]?) h
  simpa using h1
theorem below_cell {w w' : World} {b o : Nat} {u : Value} (hb : Below w.heap.size w w') (h : w.cell? ⟨b, o, none⟩ = some u) : w'.cell? ⟨b, o, none⟩ = some u :=
  (hb.cell (World.block_lt_of_cell? w _ h)).trans h
theorem box_cell {w : World} {cs : Array Value} {T : TypeId} (o : Nat) (u : Value) (h : cs[o]? = some u) : (w.alloc (.cells cs T)).cell? ⟨w.heap.size, o, none⟩ = some u := by
  rw [cell_of_row _ w.heap.size o _ T (0, 0) (heap_alloc_new w _)]
  exact h
theorem below_row {w w' : World} {base : Nat} {e : TypeId} {size : Nat} {v : Value} {n : Nat} {xs : List Value} (h : w.ownsRow base e size v n xs) (hb : Below w.heap.size w w') : w'.ownsRow base e size v n xs :=
  h.kept (row := none) ⟨hb.os, hb.tape, hb.output, hb.size, fun i hi _ => hb.block i hi⟩ (by cases v.ownBlock <;> simp)
theorem below_drewN {B : Nat} {a w : World} (h : Below B a w) (n : Nat) : Below B a (w.drewN n) := ⟨h.os, h.tape, h.output, h.size, h.block⟩
theorem below_alloc {w w' : World} {o : Obj} (hb : Below (w.alloc o).heap.size (w.alloc o) w') : Below w.heap.size w w' :=
  ((Below.refl w.heap.size w).alloc (Nat.le_refl _) o).trans (hb.mono (by simp))
theorem le_alloc {a : Nat} {w : World} {o : Obj} (h : a ≤ w.heap.size) : a ≤ (w.alloc o).heap.size := by simp; omega
theorem fcell {W w1 : World} (hb : Below W.heap.size W w1) : (∀ b o, b < W.heap.size → w1.cell? ⟨b, o, none⟩ = W.cell? ⟨b, o, none⟩) ∧ (∀ b o, b < W.heap.size → w1.frozen? ⟨b, o, none⟩ = W.frozen? ⟨b, o, none⟩) :=
  ⟨fun b o h => hb.cell (p := ⟨b, o, none⟩) h, fun b o h => hb.frozen (p := ⟨b, o, none⟩) h⟩

/-- Where a part of a slice begins. -/
def fromAddr (A : Option Addr) (cap k size : Nat) : Option Addr := if cap = k then A else A.map (·.add (k * size))
set_option maxRecDepth 100000 in
theorem slice_from {P : Program} (t : TypeId) (ht : P.underlying t = some (.slice (P.elem t))) (size : Nat) (hs : (P.info? (P.elem t)).map (·.size) = some size) (A : Option Addr) (n cap k : Nat) (hk : k ≤ n) (W : World) :
    (Instr.slice t (.slice A n cap) (some (.int .i64 (k : Int))) none none).run P W = .ok (.slice (fromAddr A cap k size) (n - k) (cap - k)) W := by
  rw [run_slice_l W t A n cap ht .i64 (k : Int) (by omega) (by omega)]
  obtain ⟨i, hi, hz⟩ := Option.map_eq_some_iff.1 hs
  simp [sizeOf, typeInfo, hi, hz, Result.andThen, sliced, fromAddr]

set_option maxRecDepth 100000 in
theorem slice_upto {P : Program} (t : TypeId) (ht : P.underlying t = some (.slice (P.elem t))) (size : Nat) (hs : (P.info? (P.elem t)).map (·.size) = some size) (A : Option Addr) (n cap k : Nat) (hk : k ≤ cap) (W : World) :
    (Instr.slice t (.slice A n cap) none (some (.int .i64 (k : Int))) none).run P W = .ok (.slice A k cap) W := by
  rw [run_slice_h W t A n cap ht .i64 (k : Int) (by omega) (by omega)]
  obtain ⟨i, hi, hz⟩ := Option.map_eq_some_iff.1 hs
  cases A with
  | none => simp [sizeOf, typeInfo, hi, hz, Result.andThen, sliced]
  | some a => by_cases hc : cap = 0 <;> simp [sizeOf, typeInfo, hi, hz, Result.andThen, sliced, Addr.add, hc]

/-! ### rows cut short; their forms, whatever an element's cells -/
theorem own_weaken {w : World} {base base' : Nat} {e : TypeId} {size : Nat} {v : Value} {n : Nat} {xs : List Value} (h : w.ownsRow base e size v n xs) (hb : base' ≤ base) : w.ownsRow base' e size v n xs := by
  refine ⟨h.1, ?_⟩
  rcases h.2 with h2 | ⟨g, cap, cur, h3, h4, h5⟩
  · exact .inl h2
  · exact .inr ⟨g, cap, cur, h3, Nat.le_trans hb h4, h5⟩
theorem own_sliceN {w : World} {base : Nat} {e : TypeId} {size : Nat} {v : Value} {n : Nat} {xs : List Value} (h : w.ownsRow base e size v n xs) : ∃ A c, v = .slice A n c ∧ n ≤ c ∧ c ≤ maxLen ∧ (A = none → c = 0) ∧ (∀ a, A = some a → base ≤ a.block ∧ a.block < w.heap.size ∧ a = ⟨a.block, 0, none⟩) := by
  have hlt := h.lt
  rcases h.2 with ⟨rfl, h0⟩ | ⟨g, cap, cur, rfl, h1, h2, h3, h4, h5⟩
  · exact ⟨none, 0, by rw [h0], by omega, by decide, fun _ => rfl, fun a e => by cases e⟩
  · exact ⟨_, cap, rfl, h3, h4, (fun e => by cases e), fun a e => by injection e with e; subst e; exact ⟨(hlt g rfl).1, (hlt g rfl).2, rfl⟩⟩
theorem own_same (A : Option Addr) (k n c : Nat) : (Value.slice A k c).ownBlock = (Value.slice A n c).ownBlock := by cases A <;> rfl

/-! ### lists of strings -/
def strS (s : List UInt8) : Value := .string ⟨s.toArray⟩
theorem str_eta (n : ByteArray) : (Value.string n) = strS n.data.toList := by
  obtain ⟨⟨l⟩⟩ := n
  rfl
/-- The slice of address A reads as the texts l. -/
def Strs (w : World) (A : Option Addr) (l : List (List UInt8)) : Prop :=
  0 < l.length → ∃ b off, A = some ⟨b, off, none⟩ ∧ ∀ (j : Nat) (s : List UInt8), l[j]? = some s → w.cell? ⟨b, off + j, none⟩ = some (strS s)
theorem Strs.below {w w' : World} {A : Option Addr} {l : List (List UInt8)} (h : Strs w A l) (hb : Below w.heap.size w w') : Strs w' A l := fun h0 => by
  obtain ⟨b, off, h1, h2⟩ := h h0
  exact ⟨b, off, h1, fun j s hs => below_cell hb (h2 j s hs)⟩
theorem Strs.nil (w : World) (A : Option Addr) : Strs w A [] := fun h => by simp at h
theorem Strs.take {w : World} {A : Option Addr} {l : List (List UInt8)} (h : Strs w A l) (k : Nat) : Strs w A (l.take k) := fun h0 => by
  rw [List.length_take] at h0
  obtain ⟨b, off, h1, h2⟩ := h (by omega)
  refine ⟨b, off, h1, fun j s hs => h2 j s ?_⟩
  by_cases hj : j < k
  · rwa [List.getElem?_take_of_lt hj] at hs
  · rw [List.getElem?_eq_none (by rw [List.length_take]; omega)] at hs
    cases hs
theorem strs_own {w : World} {base : Nat} {e : TypeId} {A : Option Addr} {n c : Nat} {l : List (List UInt8)} (h : w.ownsRow base e 1 (.slice A n c) n (l.map strS)) : l.length = n ∧ Strs w A l ∧ n ≤ c ∧ c ≤ maxLen := by
  have hl : l.length = n := by simpa using h.1
  obtain ⟨A', c', e1, h1, h2, -⟩ := own_slice h
  injection e1 with e1 _ e3
  subst e1; subst e3
  refine ⟨hl, fun h0 => ?_, h1, h2⟩
  obtain ⟨g, cap, e4, -⟩ := own_form h (by omega)
  injection e4 with e4 _ e5
  subst e4; subst e5
  refine ⟨g, 0, rfl, fun j s hs => ?_⟩
  have hj : j < l.length := (List.getElem?_eq_some_iff.1 hs).1
  rw [Nat.zero_add, h.cellAt j (by omega), List.getElem?_map, hs]
  rfl
end Go.Proofs.YtimbbfneaaglbaaGreat.Mem

namespace Go.Proofs.YtimbbfneaaglbaaGreat.Trace
open Go.RowKit Go.ChangeShapes Go.WideShapes Go.Deep Go.Proofs.YtimbbfneaaglbaaGreat.Ints Go.Proofs.YtimbbfneaaglbaaGreat.Mem

/-- An event. -/
structure Ev where
  time : Int
  ids : List Int
deriving DecidableEq

/-- The two cells of an event, in blocks of S. -/
def EvAt (S : Nat → Prop) (w : World) (b o : Nat) (e : Ev) : Prop :=
  w.cell? ⟨b, o, none⟩ = some (.int .u64 e.time) ∧ (Lit.int .u64 e.time).wf = true ∧
    ∃ (K : Option Addr) (c : Nat), w.cell? ⟨b, o + 1, none⟩ = some (.slice K e.ids.length c) ∧ Rd .i64 w K e.ids.length e.ids ∧ e.ids.length ≤ c ∧ c ≤ maxLen ∧ S b ∧ (∀ a, K = some a → 0 < e.ids.length → S a.block)
theorem EvAt.keep {S : Nat → Prop} {w w' : World} {b o : Nat} {e : Ev} (h : EvAt S w b o e) (hk : ∀ p u, S p.block → w.cell? p = some u → w'.cell? p = some u) : EvAt S w' b o e := by
  obtain ⟨h1, h5, K, c, h9, h10, h11, h12, h13, h14⟩ := h
  refine ⟨hk _ _ h13 h1, h5, K, c, hk _ _ h13 h9, ⟨h10.1, h10.2.1, fun h0 => ?_⟩, h11, h12, h13, h14⟩
  obtain ⟨b', off, e', hc⟩ := h10.2.2 h0
  exact ⟨b', off, e', fun j hj => hk ⟨b', off + j, none⟩ _ (h14 ⟨b', off, none⟩ e' h0) (hc j hj)⟩
theorem EvAt.mono {S S' : Nat → Prop} {w : World} {b o : Nat} {e : Ev} (h : EvAt S w b o e) (hs : ∀ b, b < w.heap.size → S b → S' b) : EvAt S' w b o e := by
  obtain ⟨h1, h5, K, c, h9, h10, h11, h12, h13, h14⟩ := h
  refine ⟨h1, h5, K, c, h9, h10, h11, h12, hs _ (World.block_lt_of_cell? w _ h1) h13, fun a e1 h0 => ?_⟩
  obtain ⟨b', off, e', hc⟩ := h10.2.2 h0
  subst e1
  injection e' with e'
  subst e'
  exact hs _ (World.block_lt_of_cell? w _ (hc 0 h0)) (h14 _ rfl h0)
theorem EvAt.below {S : Nat → Prop} {w w' : World} {b o : Nat} {e : Ev} (h : EvAt S w b o e) (hb : Below w.heap.size w w') : EvAt S w' b o e :=
  h.keep fun p _ _ hp => (hb.cell (World.block_lt_of_cell? w p hp)).trans hp
/-- The slice of address A reads as the events l, in blocks of S. -/
def Evs (S : Nat → Prop) (w : World) (A : Option Addr) (l : List Ev) : Prop :=
  0 < l.length → ∃ b off, A = some ⟨b, off, none⟩ ∧ ∀ (j : Nat) (e : Ev), l[j]? = some e → EvAt S w b (off + 2 * j) e
theorem Evs.keep {S : Nat → Prop} {w w' : World} {A : Option Addr} {l : List Ev} (h : Evs S w A l) (hk : ∀ p u, S p.block → w.cell? p = some u → w'.cell? p = some u) : Evs S w' A l := fun h0 => by
  obtain ⟨b, off, h1, h2⟩ := h h0
  exact ⟨b, off, h1, fun j n hn => (h2 j n hn).keep hk⟩
theorem Evs.mono {S S' : Nat → Prop} {w : World} {A : Option Addr} {l : List Ev} (h : Evs S w A l) (hs : ∀ b, b < w.heap.size → S b → S' b) : Evs S' w A l := fun h0 => by
  obtain ⟨b, off, h1, h2⟩ := h h0
  exact ⟨b, off, h1, fun j n hn => (h2 j n hn).mono hs⟩
theorem Evs.any {S : Nat → Prop} {w : World} {A : Option Addr} {l : List Ev} (h : Evs S w A l) : Evs Any w A l := h.mono fun _ _ _ => trivial
theorem Evs.below {S : Nat → Prop} {w w' : World} {A : Option Addr} {l : List Ev} (h : Evs S w A l) (hb : Below w.heap.size w w') : Evs S w' A l :=
  h.keep fun p _ _ hp => (hb.cell (World.block_lt_of_cell? w p hp)).trans hp
theorem Evs.nil (S : Nat → Prop) (w : World) (A : Option Addr) : Evs S w A [] := fun h => by simp at h
theorem Evs.take {S : Nat → Prop} {w : World} {A : Option Addr} {l : List Ev} (h : Evs S w A l) (k : Nat) : Evs S w A (l.take k) := fun h0 => by
  rw [List.length_take] at h0
  obtain ⟨b, off, h1, h2⟩ := h (by omega)
  refine ⟨b, off, h1, fun j s hs => h2 j s ?_⟩
  by_cases hj : j < k
  · rwa [List.getElem?_take_of_lt hj] at hs
  · rw [List.getElem?_eq_none (by rw [List.length_take]; omega)] at hs
    cases hs

theorem structEvent : Tryz.prog.underlying 38 = some (.struct (Tryz.prog.fieldsOf 38)) := by kernel_rfl
theorem fieldsEvent : (Tryz.prog.fieldsOf 38).toList.map (fun f => (f.type, f.offset)) = [(22, 0), (24, 1)] := by kernel_rfl
theorem cellsEvent : Tryz.prog.cellsOf 38 = 2 := by kernel_rfl
theorem cellsU64 : Tryz.prog.cellsOf 22 = 1 := by kernel_rfl

section
variable {H : Type} {enc : TypeId × Value → H} {w : World}
/-- What an event's values are good for. -/
def EvOk (w : World) (e : Ev) (K : Option Addr) (c : Nat) : Prop :=
  (Lit.int .u64 e.time).wf = true ∧ Rd .i64 w K e.ids.length e.ids ∧ e.ids.length ≤ c ∧ c ≤ maxLen
/-- One event that is read. -/
theorem event_vals {fuel : Nat} {cs : List Value} {x : DataW H × List MemPlace} (h : DataW.trod enc Tryz.prog w 0 (fun _ => true) true fuel 38 cs = some x) :
    ∃ e K c, cs[0]? = some (.int .u64 e.time) ∧ cs[1]? = some (.slice K e.ids.length c) ∧ EvOk w e K c := by
  obtain ⟨ys, m, -, -, -, hlen, hf⟩ := DataW.trod_struct structEvent h
  have hsz : (Tryz.prog.fieldsOf 38).size = 2 := by
    have := congrArg List.length fieldsEvent
    simpa using this
  obtain ⟨f0, g0, t0, o0⟩ := field_at fieldsEvent (i := 0) rfl
  obtain ⟨f1, g1, t1, o1⟩ := field_at fieldsEvent (i := 1) rfl
  obtain ⟨y0, e0⟩ : ∃ y, ys[0]? = some y := ⟨_, List.getElem?_eq_getElem (by omega)⟩
  obtain ⟨y1, e1⟩ : ∃ y, ys[1]? = some y := ⟨_, List.getElem?_eq_getElem (by omega)⟩
  have k0 := hf 0 f0 g0
  have k1 := hf 1 f1 g1
  rw [t0, o0, e0, cellsU64] at k0
  rw [t1, o1, e1, cellsInts] at k1
  obtain ⟨tm, c0, -, w0⟩ := DataW.trod_int Tryz.underlying22 k0
  have d0 := one_of c0
  rcases open_ints Tryz.underlying24 Tryz.underlying3 cellsInt k1 with ⟨hcs, -⟩ | ⟨a, len, cap, us, hcs, -, hl, hm, hz, -, hcell, hwf⟩
  · exact ⟨⟨tm, []⟩, none, 0, d0, one_of hcs, w0, Rd.nil _ _ _, Nat.le_refl _, by decide⟩
  · have d3 := one_of hcs
    obtain ⟨hr, hl', hm'⟩ := rd_of (k := .i64) (w := w) (A := some a) (zs := us) (len := len) (cap := cap) (Or.inr ⟨a, rfl, hl, hm, by simpa using hz, hcell, hwf⟩)
    have hlen3 : (us.take len).length = len := by rw [List.length_take]; have : us.length = cap := by simpa using hz
                                                  omega
    refine ⟨⟨tm, us.take len⟩, some a, cap, d0, ?_, w0, ?_, ?_, hm⟩
    · simp only [hlen3]; exact d3
    · simp only [hlen3]; exact hr
    · simp only [hlen3]; exact hl
theorem event_of {fuel : Nat} {cs : List Value} {x : DataW H × List MemPlace} {b o : Nat} (h : DataW.trod enc Tryz.prog w 0 (fun _ => true) true fuel 38 cs = some x)
    (hc : ∀ j, j < 2 → w.cell? ⟨b, o + j, none⟩ = cs[j]?) : ∃ e, EvAt Any w b o e := by
  obtain ⟨e, K, c, d0, d1, h5, h9, h10, h11⟩ := event_vals h
  exact ⟨e, (hc 0 (by omega)).trans d0, h5, K, c, (hc 1 (by omega)).trans d1, h9, h10, h11, trivial, fun _ _ _ => trivial⟩
theorem two_values {cs : Array Value} {u v : Value} (hsz : cs.size = 2) (d0 : cs.toList[0]? = some u) (d1 : cs.toList[1]? = some v) : cs = #[u, v] := by
  obtain ⟨l⟩ := cs
  match l, hsz with
  | [a, b], _ => simp at d0 d1; rw [d0, d1]
set_option maxRecDepth 100000 in
/-- An event that came in by value. -/
theorem event_value {r : Reach} {b0 : Nat} {v : Value} {d : DataW H} {p : List MemPlace} (hv : Value.okWide Tryz.prog w r b0 38 v) (h : DataW.Trod enc Tryz.prog w 0 (fun _ => true) true 38 v d p) :
    ∃ (e : Ev) (K : Option Addr) (c : Nat), v = .agg #[.int .u64 e.time, .slice K e.ids.length c] ∧ EvOk w e K c := by
  obtain ⟨cs, rfl, hsz⟩ := okWide_struct structEvent hv
  obtain ⟨fuel, hf⟩ := h
  obtain ⟨e, K, c, d0, d1, h5⟩ := event_vals hf
  exact ⟨e, K, c, by rw [two_values (hsz.trans cellsEvent) d0 d1], h5⟩
end
theorem EvOk.below {w w' : World} {e : Ev} {K : Option Addr} {c : Nat} (h : EvOk w e K c) (hb : Below w.heap.size w w') : EvOk w' e K c := ⟨h.1, h.2.1.below hb, h.2.2⟩
def noEv : Ev := ⟨0, []⟩
theorem ev_eq (x y : Ev) : decide (x = y) = (decide (x.time = y.time) && decide (x.ids = y.ids)) := by
  cases x; cases y
  simp only [Ev.mk.injEq, Bool.decide_and]
theorem int_beq (a b : Int) : (a == b) = decide (a = b) := by
  rw [Bool.eq_iff_iff, beq_iff_eq, decide_eq_true_iff]
end Go.Proofs.YtimbbfneaaglbaaGreat.Trace
