/-
  Slices of integers, as a walk needs them: a slice that reads as a list of numbers, whatever its address where it is empty; what is appended to a row of the call's own. By an AI agent.
-/
import Derived.Below
import Derived.Laws.OwnMore
import Derived.Laws.MakeOwn
import Derived.Deep.Draws
import Derived.Lib.SlBytesConst
import Derived.Laws.BytesArg
import Derived.Laws.Strings
import Derived.OwnWalk
import Derived.WalkKit
namespace Go.Proofs.Ytimbbfneaaglbaa.Ints
open Go.RowKit

/-- The slice of address A and length n reads as the numbers zs of kind k. -/
def Rd (k : IntKind) (w : World) (A : Option Addr) (n : Nat) (zs : List Int) : Prop :=
  zs.length = n ∧ (∀ j, j < n → (Lit.int k (zs[j]?.getD 0)).wf = true) ∧
    (0 < n → ∃ b off, A = some ⟨b, off, none⟩ ∧ ∀ j, j < n → w.cell? ⟨b, off + j, none⟩ = some (.int k (zs[j]?.getD 0)))

theorem wf_u8 {x : Int} (h : (Lit.int .u8 x).wf = true) : 0 ≤ x ∧ x ≤ 255 := by
  simp [Lit.wf, IntKind.min, IntKind.max, IntKind.signed, IntKind.bits] at h
  omega
theorem wf_u16 {x : Int} (h : (Lit.int .u16 x).wf = true) : 0 ≤ x ∧ x ≤ 65535 := by
  simp [Lit.wf, IntKind.min, IntKind.max, IntKind.signed, IntKind.bits] at h
  omega
theorem wf_u32 {x : Int} (h : (Lit.int .u32 x).wf = true) : 0 ≤ x ∧ x ≤ 4294967295 := by
  simp [Lit.wf, IntKind.min, IntKind.max, IntKind.signed, IntKind.bits] at h
  omega
theorem wf_u64 {x : Int} (h : (Lit.int .u64 x).wf = true) : 0 ≤ x ∧ x ≤ 18446744073709551615 := by
  simp [Lit.wf, IntKind.min, IntKind.max, IntKind.signed, IntKind.bits] at h
  omega
theorem wf_i64 {x : Int} (h : (Lit.int .i64 x).wf = true) : -9223372036854775808 ≤ x ∧ x ≤ 9223372036854775807 := by
  simp [Lit.wf, IntKind.min, IntKind.max, IntKind.signed, IntKind.bits] at h
  omega
theorem u8_wf {x : Int} (h : 0 ≤ x ∧ x ≤ 255) : (Lit.int .u8 x).wf = true := by
  simp [Lit.wf, IntKind.min, IntKind.max, IntKind.signed, IntKind.bits]
  omega

theorem ret_int {k : IntKind} {a b : Int} (h : a = b) : Ending.returned (.int k a) = .returned (.int k b) := by rw [h]
theorem int_eq {k : IntKind} {a b : Int} (h : a = b) : Value.int k a = Value.int k b := by rw [h]
theorem slice_eq {A B : Option Addr} {n m c d : Nat} (h1 : A = B) (h2 : n = m) (h3 : c = d) : Value.slice A n c = Value.slice B m d := by rw [h1, h2, h3]
theorem take_snoc (l : List Int) (k : Nat) (h : k < l.length) : l.take (k + 1) = l.take k ++ [l[k]?.getD 0] := by
  rw [List.take_succ_eq_append_getElem h]; simp [List.getElem?_eq_getElem h]

section
variable {k : IntKind} {w w' : World} {A : Option Addr} {n : Nat} {zs : List Int}
theorem Rd.len (h : Rd k w A n zs) : zs.length = n := h.1
theorem Rd.wf (h : Rd k w A n zs) : ∀ j, j < n → (Lit.int k (zs[j]?.getD 0)).wf = true := h.2.1
theorem Rd.cell (h : Rd k w A n zs) : 0 < n → ∃ b off, A = some ⟨b, off, none⟩ ∧ ∀ j, j < n → w.cell? ⟨b, off + j, none⟩ = some (.int k (zs[j]?.getD 0)) := h.2.2
theorem Rd.u8 (h : Rd .u8 w A n zs) : ∀ j, j < n → 0 ≤ zs[j]?.getD 0 ∧ zs[j]?.getD 0 ≤ 255 := fun j hj => wf_u8 (h.wf j hj)
theorem Rd.u64 (h : Rd .u64 w A n zs) : ∀ j, j < n → 0 ≤ zs[j]?.getD 0 ∧ zs[j]?.getD 0 ≤ 18446744073709551615 := fun j hj => wf_u64 (h.wf j hj)
theorem Rd.nil (k : IntKind) (w : World) (A : Option Addr) : Rd k w A 0 [] := ⟨rfl, fun j h => by omega, fun h => by omega⟩
theorem Rd.keep (h : Rd k w A n zs) (hk : ∀ p u, A.map (·.block) = some p.block → w.cell? p = some u → w'.cell? p = some u) : Rd k w' A n zs :=
  ⟨h.1, h.2.1, fun h0 => by
    obtain ⟨b, off, rfl, hc⟩ := h.2.2 h0
    exact ⟨b, off, rfl, fun j hj => hk _ _ rfl (hc j hj)⟩⟩
theorem Rd.below (h : Rd k w A n zs) (hb : Below w.heap.size w w') : Rd k w' A n zs :=
  h.keep fun p _ _ hu => (hb.cell (World.block_lt_of_cell? w p hu)).trans hu
theorem Rd.grown {row : Option Nat} (h : Rd k w A n zs) (hg : w.grownBy w' row) (hne : ∀ a, A = some a → some a.block ≠ row) : Rd k w' A n zs :=
  h.keep fun p u hp hu => hg.cell hu (by
    cases A with
    | none => simp at hp
    | some a => have := hne a rfl; simp at hp; rw [← hp]; exact this)
theorem Rd.alloc (h : Rd k w A n zs) (o : Obj) : Rd k (w.alloc o) A n zs := h.keep fun _ _ _ hu => Lib.cell?_alloc_marked o hu
theorem Rd.drew (h : Rd k w A n zs) : Rd k w.drew A n zs := h
theorem Rd.drewN (h : Rd k w A n zs) (q : Nat) : Rd k (w.drewN q) A n zs := h.keep fun _ _ _ hu => by simpa using hu
theorem Rd.take (h : Rd k w A n zs) {m : Nat} (hm : m ≤ n) : Rd k w A m (zs.take m) :=
  ⟨by rw [List.length_take, h.1]; omega, fun j hj => by rw [List.getElem?_take_of_lt hj]; exact h.2.1 j (by omega), fun h0 => by
    obtain ⟨b, off, rfl, hc⟩ := h.2.2 (by omega)
    exact ⟨b, off, rfl, fun j hj => by rw [List.getElem?_take_of_lt hj]; exact hc j (by omega)⟩⟩
theorem Rd.drop {b off : Nat} (h : Rd k w (some ⟨b, off, none⟩) n zs) {m : Nat} (hm : m ≤ n) : Rd k w (some ⟨b, off + m, none⟩) (n - m) (zs.drop m) :=
  ⟨by rw [List.length_drop, h.1], fun j hj => by rw [List.getElem?_drop]; exact h.2.1 _ (by omega), fun h0 => by
    obtain ⟨b', off', e, hc⟩ := h.2.2 (by omega)
    simp only [Option.some.injEq, Addr.mk.injEq, and_true] at e
    obtain ⟨rfl, rfl⟩ := e
    exact ⟨_, _, rfl, fun j hj => by rw [List.getElem?_drop, Nat.add_assoc]; exact hc _ (by omega)⟩⟩
/-- What the shell tells of a slice of integers that came in. -/
theorem rd_of {len cap : Nat} (h : (A = none ∧ len = 0 ∧ cap = 0 ∧ zs = []) ∨
      ∃ x, A = some x ∧ len ≤ cap ∧ cap ≤ maxLen ∧ zs.length = cap ∧ (∀ i, i < zs.length → w.cell? (x.add i) = some (.int k (zs.getD i 0))) ∧ ∀ n ∈ zs, (Lit.int k n).wf = true) :
    Rd k w A len (zs.take len) ∧ len ≤ cap ∧ cap ≤ maxLen := by
  rcases h with ⟨rfl, rfl, rfl, rfl⟩ | ⟨x, rfl, hl, hm, hz, hcell, hwf⟩
  · exact ⟨Rd.nil _ _ _, Nat.le_refl _, by decide⟩
  · have e : ∀ j, j < len → (zs.take len)[j]?.getD 0 = zs.getD j 0 := fun j hj => by
      rw [List.getElem?_take_of_lt hj]; simp [List.getD]
    refine ⟨⟨by rw [List.length_take]; omega, fun j hj => ?_, fun h0 => ?_⟩, hl, hm⟩
    · rw [e j hj]
      have hj' : j < zs.length := by omega
      have := hwf zs[j] (List.getElem_mem hj')
      simpa only [List.getD, List.getElem?_eq_getElem hj', Option.getD_some] using this
    · obtain ⟨b, off, spot⟩ := x
      have hc := hcell 0 (by omega)
      have hspot : spot = none := by simpa [Addr.add] using World.cell?_spot hc
      subst hspot
      refine ⟨b, off, rfl, fun j hj => ?_⟩
      rw [e j hj, ← hcell j (by omega)]
      congr 1
      unfold Addr.add
      split <;> simp_all
/-- A row that was laid just now. -/
theorem Rd.lit (w : World) (T : TypeId) (fr : Nat × Nat) (zs : List Int) (hz : ∀ z ∈ zs, (Lit.int k z).wf = true) :
    Rd k (w.alloc (.cells (zs.map (Value.int k)).toArray T fr)) (some ⟨w.heap.size, 0, none⟩) zs.length zs :=
  ⟨rfl, fun j hj => by rw [List.getElem?_eq_getElem hj]; exact hz _ (List.getElem_mem hj), fun _ => ⟨_, _, rfl, fun j hj => by
    rw [Nat.zero_add, cell_of_row _ w.heap.size j _ T fr (heap_alloc_new w _)]
    simp [List.getElem?_eq_getElem hj]⟩⟩
/-- A row of the call's own. -/
theorem Rd.own {base c : Nat} {e : TypeId} (h : w.ownsRow base e 1 (.slice A n c) n (zs.map (Value.int k))) (hz : ∀ z ∈ zs, (Lit.int k z).wf = true) : Rd k w A n zs := by
  have hl : zs.length = n := by simpa using h.1
  refine ⟨hl, fun j hj => ?_, fun h0 => ?_⟩
  · rw [List.getElem?_eq_getElem (by omega)]; exact hz _ (List.getElem_mem _)
  · have h' := h
    rcases h.2 with ⟨_, h2⟩ | ⟨g, cap, cur, h2, _⟩
    · omega
    · injection h2 with h3 _ h4
      subst h3; subst h4
      refine ⟨_, _, rfl, fun j hj => ?_⟩
      rw [Nat.zero_add, h'.cellAt j (by omega)]
      have hj' : j < zs.length := by omega
      simp [List.getElem?_eq_getElem hj']
end

section
variable {w : World} {base : Nat} {e : TypeId} {v : Value} {n : Nat} {xs : List Value} {k : IntKind} {zs : List Int}
theorem own_form (h : w.ownsRow base e 1 v n xs) (hn : 0 < n) : ∃ g cap, v = .slice (some ⟨g, 0, none⟩) n cap ∧ base ≤ g ∧ g < w.heap.size ∧ n ≤ cap ∧ cap ≤ maxLen := by
  have hlt := h.lt
  rcases h.2 with ⟨_, h2⟩ | ⟨g, cap, cur, rfl, _, _, h3, h4, _⟩
  · omega
  · exact ⟨g, cap, rfl, (hlt g rfl).1, (hlt g rfl).2, h3, h4⟩
theorem own_slice (h : w.ownsRow base e 1 v n xs) : ∃ A c, v = .slice A n c ∧ n ≤ c ∧ c ≤ maxLen ∧ (A = none → c = 0) ∧ (∀ a, A = some a → base ≤ a.block ∧ a.block < w.heap.size) := by
  have hlt := h.lt
  rcases h.2 with ⟨rfl, rfl⟩ | ⟨g, cap, cur, rfl, _, _, h3, h4, _⟩
  · exact ⟨none, 0, rfl, Nat.le_refl _, (by decide), (fun _ => rfl), (fun a h => by cases h)⟩
  · exact ⟨_, cap, rfl, h3, h4, (fun h => by cases h), (fun a h => by injection h with h; subst h; exact hlt g rfl)⟩
theorem own_cell {g cap : Nat} (h : w.ownsRow base e 1 (.slice (some ⟨g, 0, none⟩) n cap) n (zs.map (Value.int k))) {j : Nat} (hj : j < n) : w.cell? ⟨g, j, none⟩ = some (.int k (zs[j]?.getD 0)) := by
  have hl : zs.length = n := by simpa using h.1
  rw [h.cellAt j (by omega)]
  have hj' : j < zs.length := by omega
  simp [List.getElem?_eq_getElem hj']
theorem own_set {g cap : Nat} (h : w.ownsRow base e 1 (.slice (some ⟨g, 0, none⟩) n cap) n (zs.map (Value.int k))) (j : Nat) (y : Int) :
    (w.setCell ⟨g, j, none⟩ (.int k y)).ownsRow base e 1 (.slice (some ⟨g, 0, none⟩) n cap) n ((zs.set j y).map (Value.int k)) := by
  rw [List.map_set]; exact (h.stored j _).1
theorem wf_set {j : Nat} {y : Int} (h : ∀ z ∈ zs, (Lit.int k z).wf = true) (hy : (Lit.int k y).wf = true) : ∀ z ∈ zs.set j y, (Lit.int k z).wf = true := by
  intro z hz
  rcases List.mem_or_eq_of_mem_set hz with h1 | rfl
  · exact h z h1
  · exact hy
theorem Rd.all {A : Option Addr} (h : Rd k w A n zs) : ∀ z ∈ zs, (Lit.int k z).wf = true := by
  intro z hz
  obtain ⟨j, hj, rfl⟩ := List.getElem_of_mem hz
  have := h.wf j (by have := h.len; omega)
  rwa [List.getElem?_eq_getElem hj] at this
end

section
variable {P : Program} {w : World}
theorem one_cell (k : IntKind) (zs : List Int) : ∀ u ∈ zs.map (Value.int k), u.oneCell' = true := by
  intro u hu
  obtain ⟨z, _, rfl⟩ := List.mem_map.1 hu
  rfl
/-- 'append(v, xs...)': v is the call's own, xs reads as numbers, whatever its address where it is empty. -/
theorem run_append_ints (k : IntKind) (base : Nat) (t ty e : TypeId) (i : TypeInfo) (bytes : Nat) (ht : P.underlying t = some (.slice e)) (hi : P.info? e = some i) (hz : i.zero = some (.int k 0))
    (hsize : i.size = 1) (hby : i.bytes = bytes) (v : Value) (n : Nat) (zs : List Int) (hown : w.ownsRow base e 1 v n (zs.map (Value.int k)))
    (A : Option Addr) (m c : Nat) (ys : List Int) (hr : Rd k w A m ys) (h63 : n + m ≤ maxLen) (hbytes : (n + m) * bytes ≤ 140737488355328) (hbase : base ≤ w.heap.size) :
    ∃ v' w', (Builtin.append_ #[t, t] ty #[v, .slice A m c]).run P w = .ok v' w' ∧ w'.ownsRow base e 1 v' (n + m) ((zs ++ ys).map (Value.int k)) ∧ w.grownBy w' v.ownBlock := by
  have hone := one_cell k ys
  cases A with
  | some ad =>
    have hnews : ∀ j u, (ys.map (Value.int k))[j]? = some u → w.cell? (ad.add j) = some u := fun j u hu => by
      have hj : j < ys.length := by
        rcases Nat.lt_or_ge j ys.length with h | h
        · exact h
        · simp [List.getElem?_eq_none h] at hu
      obtain ⟨b, off, e, hc⟩ := hr.cell (by have := hr.len; omega)
      injection e with e
      subst e
      have h1 := hc j (by have := hr.len; omega)
      have h2 : (⟨b, off, none⟩ : Addr).add j = ⟨b, off + j, none⟩ := by unfold Addr.add; split <;> simp_all
      rw [h2, h1]
      simpa [List.getElem?_eq_getElem hj] using hu
    obtain ⟨v', w', hrun, ho, hg, _⟩ := run_append_own (P := P) w base t ty e i (.int k 0) 1 bytes ht hi hz hsize hby rfl (by decide) v n _ hown ad m c (ys.map (Value.int k)) (by simp [hr.len]) hnews hone h63 hbytes hbase
    exact ⟨v', w', hrun, by rw [List.map_append]; exact ho, hg⟩
  | none =>
    have hm : m = 0 := by
      rcases Nat.eq_zero_or_pos m with h | h
      · exact h
      · obtain ⟨_, _, h', _⟩ := hr.cell h
        cases h'
    subst hm
    have hy : ys = [] := List.eq_nil_of_length_eq_zero hr.len
    subst hy
    refine ⟨v, w, ?_, by simpa using hown, World.grownBy.refl w _⟩
    rcases hown.2 with ⟨rfl, rfl⟩ | ⟨g, cap, cur, rfl, _, _, hnc, _⟩
    · simp [Builtin.append_, run_underlying ht, sizeOf, typeInfo, hi, Builtin.lenOf, Builtin.firstCells]
    · simp [Builtin.append_, run_underlying ht, sizeOf, typeInfo, hi, Builtin.lenOf, Builtin.firstCells, hnc, storeCells]

theorem wpList_append_ints {ops : Array Oper} {rest : List Oper} {o : Oper} {a : Act} {Q : Exit → Act → World → Prop} (hgd : o.guard = none) (s x : Operand) (t : TypeId)
    (ho : o.op = .call { callee := .builtin .append, args := #[s, x], argTypes := #[t, t] }) (k : IntKind) (base : Nat) (e : TypeId) (i : TypeInfo) (bytes : Nat)
    (ht : P.underlying t = some (.slice e)) (hi : P.info? e = some i) (hz : i.zero = some (.int k 0)) (hsize : i.size = 1) (hby : i.bytes = bytes)
    (v : Value) (n : Nat) (zs : List Int) (hs : a.eval s = v) (hown : w.ownsRow base e 1 v n (zs.map (Value.int k)))
    (A : Option Addr) (m c : Nat) (ys : List Int) (hx : a.eval x = .slice A m c) (hr : Rd k w A m ys)
    (h63 : n + m ≤ maxLen) (hbytes : (n + m) * bytes ≤ 140737488355328) (hbase : base ≤ w.heap.size)
    (h : ∀ v' w', w'.ownsRow base e 1 v' (n + m) ((zs ++ ys).map (Value.int k)) → w.grownBy w' v.ownBlock → wpList P ops Q rest (a.put o.dst v') w') : wpList P ops Q (o :: rest) a w := by
  refine wpList_plain hgd fun K hK => ?_
  obtain ⟨v', w', hrun, h1, h2⟩ := run_append_ints (P := P) k base t o.type e i bytes ht hi hz hsize hby v n zs hown A m c ys hr h63 hbytes hbase
  unfold Oper.wp
  simp [execOp, ho, resolve, invoke, builtin, hs, hx, hrun, Result.andThen]
  exact hK _ _ (h v' w' h1 h2)
end

/-! ### bytes as strings -/
/-- 'string(xs)' -/
theorem run_str {P : Program} {W : World} (src e dst : TypeId) (hs : P.underlying src = some (.slice e)) (he : P.underlying e = some (.int .u8)) (hd : P.underlying dst = some .string)
    {A : Option Addr} {n c : Nat} {zs : List Int} (h : Rd .u8 W A n zs) : (convert src dst (.slice A n c)).run P W = .ok (.string (strOfNums zs)) W := by
  rcases Nat.eq_zero_or_pos n with h0 | h0
  · subst h0
    have hz : zs = [] := List.eq_nil_of_length_eq_zero h.len
    subst hz
    cases A with
    | none => exact run_convert_bytes_nil W src e hs he 0 c dst hd
    | some a =>
      have hl : (loadCells a 0).run P W = .ok (([] : List Int).map (Value.int .u8)).toArray W := by
        have := run_loadCells_list (P := P) W a [] (fun j v hj => by simp at hj)
        simpa using this
      rw [run_convert_bytes_string W src dst e _ 0 c hs he hd, run_bytesToString W a 0 c [] hl]
      rfl
  · obtain ⟨b, off, rfl, hc⟩ := h.cell h0
    exact run_convert_bytes_arg W src e hs he b off n c zs h.len (fun i hi => by rw [hc i hi]; simp [List.getD]) dst hd
theorem str_inj {xs ys : List Int} (hx : ∀ z ∈ xs, (Lit.int .u8 z).wf = true) (hy : ∀ z ∈ ys, (Lit.int .u8 z).wf = true) (h : strOfNums xs = strOfNums ys) : xs = ys := by
  have h1 : xs.map (fun n => UInt8.ofNat n.toNat) = ys.map (fun n => UInt8.ofNat n.toNat) := by
    rw [← strOfNums_data, ← strOfNums_data, h]
  have back : ∀ l : List Int, (∀ z ∈ l, (Lit.int .u8 z).wf = true) → (l.map (fun n => UInt8.ofNat n.toNat)).map (fun b => (b.toNat : Int)) = l := by
    intro l hl
    rw [List.map_map]
    conv => rhs; rw [← List.map_id l]
    apply List.map_congr_left
    intro z hz
    have := wf_u8 (hl z hz)
    have h3 : z.toNat < 256 := by omega
    simp [Nat.mod_eq_of_lt h3]
    omega
  rw [← back xs hx, ← back ys hy, h1]

/-- Two strings as the walk compares them. -/
theorem str_same {xs ys : List Int} (hx : ∀ z ∈ xs, (Lit.int .u8 z).wf = true) (hy : ∀ z ∈ ys, (Lit.int .u8 z).wf = true) : ((strOfNums xs).toList == (strOfNums ys).toList) = decide (xs = ys) := by
  rw [Bool.eq_iff_iff, beq_iff_eq, decide_eq_true_iff]
  constructor
  · intro h
    rw [ByteArray.toList_eq, ByteArray.toList_eq, strOfNums_data, strOfNums_data] at h
    refine str_inj hx hy ?_
    apply ByteArray.ext
    apply Array.toList_inj.1
    rw [strOfNums_data, strOfNums_data, h]
  · intro h; rw [h]

/-! ### quiet calls within a region that draws -/
theorem quiet_left {P : Program} {f : FuncId} {args : Array Value} {w W : World} {v : Value} (hW : ∃ k, W = w.drewN k)
    (h : Calls P f args W fun e w' => e = .returned v ∧ W = w') : Calls P f args W fun e w'' => e = .returned v ∧ ∃ m, w'' = w.drewN m :=
  h.mono fun _ _ ⟨he, hm⟩ => ⟨he, by obtain ⟨k, hk⟩ := hW; exact ⟨k, by rw [← hm, hk]⟩⟩
theorem quiet_more {P : Program} {f : FuncId} {args : Array Value} {w W : World} {v : Value} (hW : ∃ k, W = w.drewN k)
    (h : Calls P f args W fun e w' => e = .returned v ∧ ∃ q, w' = W.drewN q) : Calls P f args W fun e w'' => e = .returned v ∧ ∃ m, w'' = w.drewN m :=
  h.mono fun _ _ ⟨he, q, hm⟩ => ⟨he, by obtain ⟨k, hk⟩ := hW; exact ⟨k + q, by rw [hm, hk, World.drewN_drewN]⟩⟩

/-! ### bits of bytes -/
theorem bits_xor_u8 (a b : Nat) (ha : a < 256) (hb : b < 256) : bits .xor .u8 (a : Int) (b : Int) = ((a ^^^ b : Nat) : Int) := by
  have hx : a ^^^ b < 2 ^ 8 := Nat.xor_lt_two_pow (by omega) (by omega)
  have h1 : (BitVec.ofInt 8 (a : Int)).toNat = a := by
    rw [BitVec.ofInt_natCast, BitVec.toNat_ofNat]; exact Nat.mod_eq_of_lt (by omega)
  have h2 : (BitVec.ofInt 8 (b : Int)).toNat = b := by
    rw [BitVec.ofInt_natCast, BitVec.toNat_ofNat]; exact Nat.mod_eq_of_lt (by omega)
  show IntKind.u8.wrap ((BitVec.ofInt 8 (a : Int) ^^^ BitVec.ofInt 8 (b : Int)).toNat : Int) = _
  rw [BitVec.toNat_xor, h1, h2]
  simp only [IntKind.wrap, IntKind.bits, IntKind.signed]
  simp
  omega
theorem bits_or_u32 (a b : Nat) (ha : a < 4294967296) (hb : b < 4294967296) : bits .or .u32 (a : Int) (b : Int) = ((a ||| b : Nat) : Int) := by
  have hx : a ||| b < 2 ^ 32 := Nat.or_lt_two_pow (by omega) (by omega)
  have h1 : (BitVec.ofInt 32 (a : Int)).toNat = a := by
    rw [BitVec.ofInt_natCast, BitVec.toNat_ofNat]; exact Nat.mod_eq_of_lt (by omega)
  have h2 : (BitVec.ofInt 32 (b : Int)).toNat = b := by
    rw [BitVec.ofInt_natCast, BitVec.toNat_ofNat]; exact Nat.mod_eq_of_lt (by omega)
  show IntKind.u32.wrap ((BitVec.ofInt 32 (a : Int) ||| BitVec.ofInt 32 (b : Int)).toNat : Int) = _
  rw [BitVec.toNat_or, h1, h2]
  simp only [IntKind.wrap, IntKind.bits, IntKind.signed]
  simp
  omega
/-- A number over lower bits. -/
theorem or_low_u32 (i : Nat) (x y : Int) (hx : 0 ≤ x) (hy : 0 ≤ y) (hlt : y < ((2 ^ i : Nat) : Int)) (hs : x * ((2 ^ i : Nat) : Int) + y ≤ 4294967295) :
    bits .or .u32 (x * ((2 ^ i : Nat) : Int)) y = x * ((2 ^ i : Nat) : Int) + y := by
  obtain ⟨a, rfl⟩ := Int.eq_ofNat_of_zero_le hx
  obtain ⟨b, rfl⟩ := Int.eq_ofNat_of_zero_le hy
  have e : (a : Int) * ((2 ^ i : Nat) : Int) = ((2 ^ i * a : Nat) : Int) := by rw [Int.natCast_mul, Int.mul_comm]
  rw [e] at hs ⊢
  rw [bits_or_u32 _ _ (by omega) (by omega), ← Nat.two_pow_add_eq_or_of_lt (by omega) a, Int.natCast_add]
theorem xor_u8 (z x : Int) (hz : 0 ≤ z ∧ z ≤ 255) (hx : 0 ≤ x ∧ x ≤ 255) : (0 ≤ bits .xor .u8 z x ∧ bits .xor .u8 z x ≤ 255) ∧ (bits .xor .u8 z x = z ↔ x = 0) := by
  obtain ⟨a, rfl⟩ := Int.eq_ofNat_of_zero_le hz.1
  obtain ⟨b, rfl⟩ := Int.eq_ofNat_of_zero_le hx.1
  rw [bits_xor_u8 a b (by omega) (by omega)]
  have hlt : a ^^^ b < 2 ^ 8 := Nat.xor_lt_two_pow (by omega) (by omega)
  refine ⟨by omega, ?_⟩
  constructor
  · intro h
    have h1 : a ^^^ b = a := by omega
    have h2 : a ^^^ (a ^^^ b) = a ^^^ a := by rw [h1]
    rw [← Nat.xor_assoc, Nat.xor_self, Nat.zero_xor] at h2
    omega
  · intro h
    have : b = 0 := by omega
    subst this
    simp
end Go.Proofs.Ytimbbfneaaglbaa.Ints
