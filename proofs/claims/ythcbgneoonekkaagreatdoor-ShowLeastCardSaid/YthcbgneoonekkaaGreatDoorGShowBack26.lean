/-
  What Lex tells is good for a reader: words, signs, numbers, one end. By an AI agent.
  The walks of the landed reader's take and number. By an AI agent.
  The walks of the landed reader's pop, finish and end. By an AI agent.
  The walks of the landed reader's finish and end. By an AI agent.
-/
import Derived.Test.YthcbgneoonekkaaGreatDoorGShowBack25
import Derived.Test.YthcbgneoonekkaaGreatDoorGShowBack23
import Derived.Test.YthcbgneoonekkaaGreatDoorGShowBack24
namespace Go.Proofs.YthcbgneoonekkaaGreatDoor.Parse
open Go.Proofs.YthcbgneoonekkaaGreatDoor.Lex Go.Proofs.YthcbgneoonekkaaGreatDoor.Tree

def GoodT : List Tk → Prop
  | [] => False
  | t :: r => (TokOk t ∧ t.num ≤ 9999 ∧ t.text.length ≤ 16) ∧ (t.kind = 0 ∧ r = [] ∨ t.kind ≠ 0 ∧ GoodT r)
theorem GoodT.split {ts : List Tk} (h : GoodT ts) : ∃ t r, ts = t :: r ∧ TokOk t ∧ t.num ≤ 9999 ∧ t.text.length ≤ 16 ∧ (t.kind = 0 ∧ r = [] ∨ t.kind ≠ 0 ∧ GoodT r) := by
  cases ts with
  | nil => exact h.elim
  | cons t r => exact ⟨t, r, rfl, h.1.1, h.1.2.1, h.1.2.2, h.2⟩
theorem GoodT.allOk : ∀ {ts : List Tk}, GoodT ts → AllOk ts
  | [], h => h.elim
  | t :: r, h => by
    intro u hu
    rcases List.mem_cons.1 hu with rfl | hu
    · exact h.1.1
    · rcases h.2 with ⟨-, rfl⟩ | ⟨-, h2⟩
      · cases hu
      · exact GoodT.allOk h2 u hu
theorem GoodT.tail {ts : List Tk} (h : GoodT ts) (hk : kindOf ts ≠ 0) : GoodT ts.tail := by
  obtain ⟨t, r, rfl, -, -, -, h1⟩ := h.split
  rcases h1 with ⟨h1, -⟩ | ⟨-, h1⟩
  · exact absurd h1 hk
  · exact h1
theorem GoodT.next {ts : List Tk} (h : GoodT ts) (ht : textOf ts ≠ []) : GoodT ts.tail := h.tail (kind_end h.allOk ht)
theorem GoodT.num {ts : List Tk} (h : GoodT ts) : numAt ts ≤ 9999 := by
  obtain ⟨t, r, rfl, -, h2, -, -⟩ := h.split
  exact h2
theorem GoodT.before : ∀ (l : List Tk) {m : List Tk}, (∀ t ∈ l, TokOk t ∧ t.num ≤ 9999 ∧ t.text.length ≤ 16 ∧ t.kind ≠ 0) → GoodT m → GoodT (l ++ m)
  | [], _, _, h => h
  | t :: l, m, h1, h => by
    obtain ⟨a, b, c, d⟩ := h1 t (by simp)
    exact ⟨⟨a, b, c⟩, Or.inr ⟨d, GoodT.before l (fun u hu => h1 u (by simp [hu])) h⟩⟩

theorem sign_small {c : UInt8} (h : isSign c = true) : small c = false := by
  simp only [isSign, signs, decide_eq_true_eq, List.mem_cons, List.not_mem_nil, or_false] at h
  simp only [small, decide_eq_false_iff_not]
  omega
theorem piece_tok_ok {c : UInt8} {r : List UInt8} {n k v : Nat} {tx : List UInt8} (h : piece c r = some (n, some (k, tx, v))) (p : Nat) : TokOk ⟨k, tx, v, p⟩ ∧ v ≤ 9999 ∧ tx.length ≤ 16 ∧ k ≠ 0 := by
  unfold piece at h
  split at h
  · cases h
  · split at h
    · next hs =>
      split at h
      · cases h
      · next h16 =>
        simp only [Option.some.injEq, Prod.mk.injEq] at h
        obtain ⟨-, rfl, rfl, rfl⟩ := h
        have hp : 1 ≤ run true (c :: r) := run_pos (words := true) (small_word hs)
        obtain ⟨q, hq⟩ : ∃ q, run true (c :: r) = q + 1 := ⟨run true (c :: r) - 1, by omega⟩
        rw [hq] at h16 ⊢
        refine ⟨Or.inr (Or.inl ⟨rfl, c, r.take q, rfl, hs⟩), by omega, ?_, by simp⟩
        rw [List.length_take]
        omega
    · split at h
      · split at h
        · cases h
        · next h4 =>
          simp only [Option.some.injEq, Prod.mk.injEq] at h
          obtain ⟨-, rfl, rfl, rfl⟩ := h
          refine ⟨Or.inr (Or.inr ⟨Or.inl rfl, rfl⟩), ?_, by simp, by simp⟩
          have := numOf_lt (run false (c :: r)) (c :: r) (Nat.le_refl _)
          have h5 : 10 ^ run false (c :: r) ≤ 10 ^ 4 := Nat.pow_le_pow_right (by omega) (by omega)
          have h6 : (10 : Nat) ^ 4 = 10000 := by decide
          omega
      · split at h
        · simp only [Option.some.injEq, Prod.mk.injEq] at h
          obtain ⟨-, rfl, rfl, rfl⟩ := h
          exact ⟨Or.inl ⟨rfl, 45, [62], rfl, by decide⟩, by omega, by simp, by simp⟩
        · split at h
          · next hs =>
            simp only [Option.some.injEq, Prod.mk.injEq] at h
            obtain ⟨-, rfl, rfl, rfl⟩ := h
            exact ⟨Or.inl ⟨rfl, c, [], rfl, sign_small hs⟩, by omega, by simp, by simp⟩
          · cases h
theorem lexF_good : ∀ (f p : Nat) (bs : List UInt8) (l : List Tk), lexF f p bs = .ok l → GoodT l := by
  intro f
  have he : ∀ p, GoodT [⟨0, [], 0, p⟩] := fun p => ⟨⟨Or.inr (Or.inr ⟨Or.inr rfl, rfl⟩), Nat.zero_le _, Nat.zero_le _⟩, Or.inl ⟨rfl, rfl⟩⟩
  induction f with
  | zero =>
    intro p bs l h
    cases bs with
    | nil => simp only [lexF, Res.ok.injEq] at h; rw [← h]; exact he p
    | cons c r => simp [lexF] at h
  | succ f ih =>
    intro p bs l h
    cases bs with
    | nil => simp only [lexF, Res.ok.injEq] at h; rw [← h]; exact he p
    | cons c r =>
      simp only [lexF] at h
      cases hp : piece c r with
      | none => rw [hp] at h; cases h
      | some x =>
        obtain ⟨n, t⟩ := x
        rw [hp] at h
        simp only at h
        cases hl : lexF f (p + n) ((c :: r).drop n) with
        | bad q => rw [hl] at h; cases h
        | ok m =>
          rw [hl] at h
          have hm := ih _ _ _ hl
          simp only [Res.before, Res.ok.injEq] at h
          rw [← h]
          refine GoodT.before _ (fun u hu => ?_) hm
          cases t with
          | none => cases hu
          | some y =>
            obtain ⟨k, tx, v⟩ := y
            rw [List.mem_singleton.1 hu]
            exact piece_tok_ok hp p
theorem lexS_good {bs : List UInt8} (h : (lexS bs).2.2 = 0) : GoodT (lexS bs).1 ∧ (lexS bs).1.length ≤ 2001 := by
  unfold lexS at h ⊢
  split at h
  · cases h
  · next hn =>
    rw [if_neg hn]
    cases hl : lexAt 0 bs with
    | bad p => rw [hl] at h; cases h
    | ok l => exact ⟨lexF_good _ _ _ _ hl, by have := lexF_len _ _ _ _ hl; show l.length ≤ 2001; omega⟩
end Go.Proofs.YthcbgneoonekkaaGreatDoor.Parse

namespace Go.Proofs.YthcbgneoonekkaaGreatDoor.Parse
open Go.RowKit Go.Proofs.YthcbgneoonekkaaGreatDoor.Ints Go.Proofs.YthcbgneoonekkaaGreatDoor.Lex Go.Proofs.YthcbgneoonekkaaGreatDoor.Tree

theorem bytes_cmp (a b : List UInt8) : ((Lex.bytes a).toList == (Lex.bytes b).toList) = decide (a = b) := by
  rw [ByteArray.toList_eq, ByteArray.toList_eq]
  show (a == b) = _
  rw [Bool.eq_iff_iff, beq_iff_eq, decide_eq_true_iff]
theorem bytes_ncmp (a b : List UInt8) : ((Lex.bytes a).toList != (Lex.bytes b).toList) = !(decide (a = b)) := by rw [bne, bytes_cmp]
theorem grown_store {w w1 : World} {g k : Nat} (h : Below w.heap.size w w1) (u : Value) : w.grownBy (w1.setCell ⟨g, k, none⟩ u) (some g) :=
  ⟨h.os, h.tape, h.output, by simpa using h.size, fun i hi hne => (Below.heap_setCell w1 ⟨g, k, none⟩ u i (fun e => hne (by rw [e]))).trans (h.block i hi)⟩
theorem grown_below {w w1 : World} {g base : Nat} (h : w.grownBy w1 (some g)) (hg : base ≤ g) (hb : base ≤ w.heap.size) : Below base w w1 :=
  ⟨h.os, h.tape, h.output, h.size, fun i hi => h.block i (by omega) (fun e => by injection e with e; omega)⟩
theorem PMemE.hg {S : Nat → Prop} {w : World} {base g : Nat} {ts : List Tk} {σ : PS} (h : PMemE S w base g ts σ) : base ≤ g ∧ g < w.heap.size := by
  obtain ⟨tv, ov, nv, rv, SN, h⟩ := h
  exact ⟨h.hg, h.blk.1⟩
/-- One token on. -/
theorem PMem.next {S : Nat → Prop} {w : World} {base g : Nat} {ts : List Tk} {tv ov nv rv : Value} {SN : List SNd} {σ : PS} {t : Tk} {r : List Tk} (h : PMem S w base g ts tv ov nv rv SN σ) (hr : σ.rest = t :: r) {j : Nat} (hj : ts.length - σ.rest.length = j) :
    PMem S (w.setCell ⟨g, 1, none⟩ (.int .i64 ((j : Int) + 1))) base g ts tv ov nv rv SN { σ with rest := r } := by
  have hs : r <:+ ts := (List.suffix_cons t r).trans (hr ▸ h.suf)
  refine h.store 1 _ ?_ (by decide) hs rfl rfl rfl
  unfold cellsP
  simp only [List.set]
  have hl := h.suf.length_le
  rw [hr] at hl hj
  simp only [List.length_cons] at hl hj
  have e : ((ts.length - r.length : Nat) : Int) = (j : Int) + 1 := by omega
  rw [e]
def NotG (g : Nat) (w w' : World) : Prop := w.grownBy w' (some g)

set_option maxHeartbeats 2000000 in
theorem landTake {S : Nat → Prop} (base g : Nat) (ts : List Tk) (σ : PS) (t : Tk) (r : List Tk) (u : List UInt8) (w : World) (h : PMemE S w base g ts σ) (hr : σ.rest = t :: r) (hl : ts.length ≤ 5000) (hu : t.text = u) :
    Calls Tryz.prog 94 #[.pointer (some ⟨g, 0, none⟩), .string (Lex.bytes u)] w fun e w' => e = .returned (.bool true) ∧ PMemE S w' base g ts { σ with rest := r } ∧ w.grownBy w' (some g) := by
  have HT := Lib.hid (landTok base g ts σ t r w h hr hl)
  obtain ⟨tv, ov, nv, rv, SN, h⟩ := h
  have HM := Lib.hid h
  obtain ⟨j, hj⟩ : ∃ j, ts.length - σ.rest.length = j := ⟨_, rfl⟩
  have hj5 : (j : Int) ≤ 5000 := by omega
  have hj0 : (0 : Int) ≤ (j : Int) := by omega
  have HJ := Lib.hid hj
  have HR := Lib.hid hr
  have hc : ((Lex.bytes t.text).toList == (Lex.bytes u).toList) = true := by rw [bytes_cmp, hu]; simp
  have q1 := fieldT1 t.kind (Lex.bytes t.text) t.num t.pos
  obtain ⟨z, hz⟩ : ∃ z, Lex.bytes t.text = z := ⟨_, rfl⟩
  rw [hz] at HT hc q1
  clear h hr hl hu hj hz
  go_enter Tryz.func94, Tryz.ntmps94
  go_wp2_with (go_at_call 26; refine HT.out.mono ?_; rintro e w1 ⟨rfl, hb⟩; have c1 := (HM.out.later hb).blk.cell 1 rfl; have f1 := (HM.out.later hb).blk.fz 1 rfl; rw [HJ.out] at c1; have HB := Lib.hid hb; clear hb)
  go_ret
  exact ⟨rfl, ⟨tv, ov, nv, rv, SN, (HM.out.later HB.out).next HR.out HJ.out⟩, grown_store HB.out _⟩
set_option maxHeartbeats 2000000 in
theorem landTakeNo {S : Nat → Prop} (base g : Nat) (ts : List Tk) (σ : PS) (t : Tk) (r : List Tk) (u : List UInt8) (w : World) (h : PMemE S w base g ts σ) (hr : σ.rest = t :: r) (hl : ts.length ≤ 5000) (hu : t.text ≠ u) :
    Calls Tryz.prog 94 #[.pointer (some ⟨g, 0, none⟩), .string (Lex.bytes u)] w fun e w' => e = .returned (.bool false) ∧ PMemE S w' base g ts σ ∧ Below w.heap.size w w' := by
  have HT := Lib.hid (landTok base g ts σ t r w h hr hl)
  have HM := Lib.hid h
  have hc : ((Lex.bytes t.text).toList == (Lex.bytes u).toList) = false := by rw [bytes_cmp, decide_eq_false hu]
  have q1 := fieldT1 t.kind (Lex.bytes t.text) t.num t.pos
  obtain ⟨z, hz⟩ : ∃ z, Lex.bytes t.text = z := ⟨_, rfl⟩
  rw [hz] at HT hc q1
  clear h hr hl hu hz
  go_enter Tryz.func94, Tryz.ntmps94
  go_wp2_with (go_at_call 26; refine HT.out.mono ?_; rintro e w1 ⟨rfl, hb⟩)
  go_ret
  exact ⟨rfl, HM.out.later hb, hb⟩


set_option maxHeartbeats 4000000 in
theorem landNumber {S : Nat → Prop} (base g : Nat) (ts : List Tk) (σ : PS) (t : Tk) (r : List Tk) (bx o : Nat) (vs : List Value) (v0 : Value) (least : Int) (w : World) (h : PMemE S w base g ts σ) (hr : σ.rest = t :: r) (hl : ts.length ≤ 5000)
    (hB : Blk w bx vs) (hv : vs[o]? = some v0) (hS : ¬ S bx) (hlow : base ≤ bx) (hk : t.kind = 2) (hn : least ≤ (t.num : Int)) :
    Calls Tryz.prog 95 #[.pointer (some ⟨g, 0, none⟩), .pointer (some ⟨bx, o, none⟩), .int .i64 least] w fun e w' => e = .returned (.bool true) ∧ PMemE S w' base g ts { σ with rest := r } ∧ Blk w' bx (vs.set o (.int .i64 (t.num : Int))) ∧
      w.heap.size ≤ w'.heap.size ∧ Below base w w' ∧ ∀ i, i < w.heap.size → i ≠ g → i ≠ bx → w'.heap[i]? = w.heap[i]? := by
  have HT := Lib.hid (landTok base g ts σ t r w h hr hl)
  obtain ⟨tv, ov, nv, rv, SN, h⟩ := h
  have hgb : g ≠ bx := fun e => hS (e ▸ h.sg)
  have HM := Lib.hid h
  obtain ⟨j, hj⟩ : ∃ j, ts.length - σ.rest.length = j := ⟨_, rfl⟩
  have hj5 : (j : Int) ≤ 5000 := by omega
  have hj0 : (0 : Int) ≤ (j : Int) := by omega
  have HJ := Lib.hid hj
  have HR := Lib.hid hr
  have HB := Lib.hid hB
  have HV := Lib.hid hv
  have HS := Lib.hid (show ¬ S bx ∧ base ≤ bx ∧ g ≠ bx from ⟨hS, hlow, hgb⟩)
  have hk2 : ((t.kind : Int) != 2) = false := by rw [hk]; rfl
  have hlt : decide ((t.num : Int) < least) = false := decide_eq_false (by omega)
  obtain ⟨n, hnn⟩ : ∃ n, t.num = n := ⟨_, rfl⟩
  rw [hnn] at HT hlt ⊢
  clear h hr hl hj hB hv hS hlow hk hn hnn hgb
  go_enter Tryz.func95, Tryz.ntmps95
  go_wp2_with fail
  refine HT.out.mono ?_
  rintro e w1 ⟨rfl, hb⟩
  have hc := fun q : Obj => ((HB.out.later hb).alloc q).cell _ HV.out
  have hf := fun q : Obj => ((HB.out.later hb).alloc q).fz _ HV.out
  have hM1 := fun q : Obj => (HM.out.later hb).later ((Below.refl _ _).alloc (Nat.le_refl _) q)
  have c1 := fun (q : Obj) (u : Value) => ((hM1 q).far bx o u HS.out.1 HS.out.2.1).blk.cell 1 rfl
  have f1 := fun (q : Obj) => (hM1 q).blk.fz 1 rfl
  rw [HJ.out] at c1
  have HW := Lib.hid hb
  clear hb
  go_wp2_with fail
  go_ret
  have hW1 : Below w.heap.size w (w1.alloc (.cells #[.int .i64 t.kind, .string (Lex.bytes t.text), .int .i64 n, .int .i64 t.pos] 75)) := HW.out.alloc HW.out.size _
  refine ⟨rfl, ⟨tv, ov, nv, rv, SN, ((hM1 _).far bx o (.int .i64 n) HS.out.1 HS.out.2.1).next HR.out HJ.out⟩, ?_, by simpa using hW1.size, ?_, fun i hi h1 h2 => ?_⟩
  · exact (((HB.out.later HW.out).alloc _).set o _ (List.getElem?_eq_some_iff.1 HV.out).1).other _ _ (fun e => HS.out.2.2 e.symm)
  · have hg := HM.out.hg
    have hb := HM.out.hb
    exact ((hW1.mono hb).setCell (p := ⟨bx, o, none⟩) HS.out.2.1 _).setCell (p := ⟨g, 1, none⟩) hg _
  · exact ((Below.heap_setCell _ ⟨g, 1, none⟩ _ i h1).trans (Below.heap_setCell _ ⟨bx, o, none⟩ _ i h2)).trans (hW1.block i hi)
set_option maxHeartbeats 4000000 in
theorem landNumberNo {S : Nat → Prop} (base g : Nat) (ts : List Tk) (σ : PS) (t : Tk) (r : List Tk) (q : Addr) (least : Int) (w : World) (h : PMemE S w base g ts σ) (hr : σ.rest = t :: r) (hl : ts.length ≤ 5000)
    (hk : t.kind ≠ 2 ∨ (t.num : Int) < least) :
    Calls Tryz.prog 95 #[.pointer (some ⟨g, 0, none⟩), .pointer (some q), .int .i64 least] w fun e w' => e = .returned (.bool false) ∧ PMemE S w' base g ts σ ∧ Below w.heap.size w w' := by
  have HT := Lib.hid (landTok base g ts σ t r w h hr hl)
  have HM := Lib.hid h
  by_cases hk2 : t.kind = 2
  · have hlt : decide ((t.num : Int) < least) = true := decide_eq_true (hk.resolve_left fun h => h hk2)
    have hkk : ((t.kind : Int) != 2) = false := by rw [hk2]; rfl
    clear h hr hl hk hk2
    go_enter Tryz.func95, Tryz.ntmps95
    go_wp2_with fail
    refine HT.out.mono ?_
    rintro e w1 ⟨rfl, hb⟩
    go_wp2_with fail
    go_ret
    exact ⟨rfl, HM.out.later (hb.alloc hb.size _), hb.alloc hb.size _⟩
  · have hkk : ((t.kind : Int) != 2) = true := by simp; omega
    clear h hr hl hk hk2
    go_enter Tryz.func95, Tryz.ntmps95
    go_wp2_with fail
    refine HT.out.mono ?_
    rintro e w1 ⟨rfl, hb⟩
    go_wp2_with fail
    go_ret
    exact ⟨rfl, HM.out.later (hb.alloc hb.size _), hb.alloc hb.size _⟩
end Go.Proofs.YthcbgneoonekkaaGreatDoor.Parse

namespace Go.Proofs.YthcbgneoonekkaaGreatDoor.Parse
open Go.RowKit Go.Proofs.YthcbgneoonekkaaGreatDoor.Ints Go.Proofs.YthcbgneoonekkaaGreatDoor.Lex Go.Proofs.YthcbgneoonekkaaGreatDoor.Tree

/-! ### what a reader keeps -/
structure EntOk (x : Ent) : Prop where
  kinds : (x.kind = 0 ∧ x.kids = 0) ∨ (1 ≤ x.kind ∧ x.kind ≤ 22 ∧ (x.kids = 1 ∨ x.kids = 2))
  lo : small64 x.lo
  hi : small64 x.hi
  depth : x.depth ≤ 40
  level : x.level ≤ 5
def need (o : List Ent) : Nat := (o.map fun x => x.kids - 1).sum
theorem need_cons (x : Ent) (K : List Ent) : need (x :: K) = (x.kids - 1) + need K := by unfold need; rw [List.map_cons, List.sum_cons]
theorem need_le : ∀ (o : List Ent), (∀ x ∈ o, EntOk x) → need o ≤ o.length
  | [], _ => Nat.le_refl _
  | x :: K, h => by
    rw [need_cons, List.length_cons]
    have := need_le K fun y hy => h y (List.mem_cons_of_mem _ hy)
    rcases (h x List.mem_cons_self).kinds with ⟨-, h1⟩ | ⟨-, -, h1 | h1⟩ <;> omega
structure Good (M e : Nat) (σ : PS) : Prop where
  ents : ∀ x ∈ σ.opn, EntOk x
  bot : ∃ K g, σ.opn = K ++ [ent0 g]
  roots : ∀ z ∈ σ.roots, 0 ≤ z ∧ z < (σ.nodes.length : Int)
  need : need σ.opn + e = σ.roots.length
  size : σ.opn.length + σ.nodes.length + σ.rest.length ≤ M
theorem Good.ok {M e : Nat} {σ : PS} (h : Good M e σ) (hM : M ≤ 5000) (he : e ≤ 1) : RootsOk σ := by
  have h1 := need_le _ h.ents
  have h2 := h.need
  have h3 := h.size
  exact ⟨by omega, by omega, fun z hz => by have := h.roots z hz; omega⟩
theorem Good.split {M e : Nat} {σ : PS} (h : Good M e σ) : ∃ x K, σ.opn = x :: K := by
  obtain ⟨K, g, hK⟩ := h.bot
  cases hK' : σ.opn with
  | nil => rw [hK'] at hK; simp at hK
  | cons x K => exact ⟨x, K, rfl⟩
theorem pop_good {M : Nat} {σ : PS} (h : Good M 1 σ) {x : Ent} {K : List Ent} (hx : σ.opn = x :: K) (hb : ∃ K' g, K = K' ++ [ent0 g]) : Good M 1 (popM σ) := by
  have hents : ∀ y ∈ K, EntOk y := fun y hy => h.ents y (by rw [hx]; exact List.mem_cons_of_mem _ hy)
  have hn := h.need
  have hs := h.size
  rw [hx] at hn hs
  rw [need_cons] at hn
  rw [List.length_cons] at hs
  have hxk := (h.ents x (by rw [hx]; exact List.mem_cons_self)).kinds
  unfold popM
  rw [hx]
  simp only
  unfold popX
  by_cases h0 : x.kind = 0
  · rw [if_pos h0]
    have hk0 : x.kids = 0 := by rcases hxk with ⟨-, h1⟩ | ⟨h1, -⟩ <;> omega
    exact ⟨hents, hb, h.roots, by show need K + 1 = σ.roots.length; omega, by show K.length + σ.nodes.length + σ.rest.length ≤ M; omega⟩
  · rw [if_neg h0]
    have hk1 : x.kids = 1 ∨ x.kids = 2 := by rcases hxk with ⟨h1, -⟩ | ⟨-, -, h1⟩ <;> omega
    refine ⟨hents, hb, fun z hz => ?_, ?_, ?_⟩
    · rw [show (putM (entNd x) x.kids { σ with opn := K }).nodes = σ.nodes ++ [{ entNd x with kids := (σ.roots.take x.kids).reverse }] from rfl, List.length_append, List.length_singleton]
      rcases List.mem_cons.1 hz with rfl | hz
      · show (0 : Int) ≤ (σ.nodes.length : Int) ∧ (σ.nodes.length : Int) < ((σ.nodes.length + 1 : Nat) : Int)
        omega
      · have := h.roots z (List.mem_of_mem_drop hz); omega
    · show need K + 1 = ((σ.nodes.length : Int) :: σ.roots.drop x.kids).length
      rw [List.length_cons, List.length_drop]
      omega
    · show K.length + (σ.nodes ++ [_]).length + σ.rest.length ≤ M
      rw [List.length_append, List.length_singleton]
      omega

set_option maxHeartbeats 8000000 in
set_option maxRecDepth 100000 in
theorem landPop (bx : Option Nat) (base g M : Nat) (ts : List Tk) (σ : PS) (x : Ent) (K : List Ent) (w : World) (hlow : Low bx w) (h : PMemE (Aw bx) w base g ts σ) (hg : Good M 1 σ) (hM : M ≤ 5000) (hx : σ.opn = x :: K) :
    Calls Tryz.prog 64 #[.pointer (some ⟨g, 0, none⟩)] w fun e w' => e = .returned (.tuple #[]) ∧ PMemE (Aw bx) w' base g ts (popM σ) ∧ Fr bx base w w' := by
  have hKl : K.length ≤ 5000 := by have := hg.size; rw [hx, List.length_cons] at this; omega
  have HT := Lib.hid (landTop base g ts σ x K w h hx (by omega))
  have HLO := Lib.hid hlow
  have HM := Lib.hid h
  have HG := Lib.hid hg
  have HX := Lib.hid hx
  have HL := Lib.hid (show M ≤ 5000 ∧ K.length ≤ 5000 from ⟨hM, hKl⟩)
  clear hlow h hg hM hx hKl
  go_enter Tryz.func64, Tryz.ntmps64
  go_wp2_with fail
  refine HT.out.mono ?_
  rintro e w1 ⟨rfl, hb⟩
  go_wp2_with fail
  have hb2 := hb.alloc hb.size (.cells #[.int .i64 x.kind, .int .i64 x.lo, .int .i64 x.hi, .int .i64 x.kids, .int .i64 x.level, .string (Lex.bytes x.closer), .bool x.reg, .int .i64 x.depth] 69)
  have hx2 := Blk.new w1 #[.int .i64 x.kind, .int .i64 x.lo, .int .i64 x.hi, .int .i64 x.kids, .int .i64 x.level, .string (Lex.bytes x.closer), .bool x.reg, .int .i64 x.depth] 69 _ rfl
  have hM2 := HM.out.later hb2
  have hw1 := hb.size
  obtain ⟨W, hW⟩ : ∃ W, w1.alloc (.cells #[.int .i64 x.kind, .int .i64 x.lo, .int .i64 x.hi, .int .i64 x.kids, .int .i64 x.level, .string (Lex.bytes x.closer), .bool x.reg, .int .i64 x.depth] 69) = W := ⟨_, rfl⟩
  rw [hW] at hb2 hx2 hM2 ⊢
  obtain ⟨B, hB⟩ : ∃ B, w1.heap.size = B := ⟨_, rfl⟩
  rw [hB] at hx2 hw1 ⊢
  obtain ⟨tv, ov, nv, rv, SN, hm⟩ := hM2
  obtain ⟨q, c, rfl, hc, hmx, -⟩ := hm.top HX.out
  have k4 := hm.blk.cell 4 rfl
  have y4 := hm.blk.fz 4 rfl
  have hcut := hm.cut HX.out rfl
  obtain ⟨m, hml⟩ : ∃ m, K.length = m := ⟨_, rfl⟩
  rw [hml] at k4 hcut hc
  have hm1 : (m : Int) ≤ 5000 := by have := HL.out.2; omega
  have hm0 : (0 : Int) ≤ (m : Int) := by omega
  have hmc : (m : Int) ≤ (c : Int) := by omega
  have hgx : g < B := Nat.lt_of_lt_of_le HM.out.hg.2 hw1
  have HC := Lib.hid hcut
  have HB2 := Lib.hid hb2
  have HX2 := Lib.hid (hx2.other ⟨g, 4, none⟩ (.slice (some ⟨q, 0, none⟩) m c) (fun e => by have e : B = g := e; omega)).drew
  have z0 := HX2.out.cell 0 rfl
  have z1 := HX2.out.cell 1 rfl
  have z2 := HX2.out.cell 2 rfl
  have z3 := HX2.out.cell 3 rfl
  have HGB := Lib.hid (And.intro hgx hw1)
  clear hb hb2 hx2 hm hcut hw1 hW hB hc hmx hml hgx
  have HMC := Lib.hid (show PMemE (Aw bx) (W.setCell ⟨g, 4, none⟩ (.slice (some ⟨q, 0, none⟩) m c)).drew base g ts { σ with opn := K } from ⟨_, _, _, _, _, HC.out.later (Below.refl _ _).drew⟩)
  have HFR := Lib.hid (show Fr bx base w (W.setCell ⟨g, 4, none⟩ (.slice (some ⟨q, 0, none⟩) m c)).drew from ((Fr.later HB2.out HM.out.base).setCell (p := ⟨g, 4, none⟩) HM.out.hg.1 HC.out.sg _).trans (Fr.later (Below.refl _ _).drew (Nat.le_trans HM.out.base (by simpa using HB2.out.size))))
  by_cases hk0 : x.kind = 0
  · have e0 : ((x.kind : Int) != 0) = false := by rw [hk0]; rfl
    have HP := Lib.hid (show popM σ = { σ with opn := K } by unfold popM; rw [HX.out]; simp only; unfold popX; rw [if_pos hk0])
    clear hk0
    go_region
    go_wp2_with fail
    go_end0
    rw [HP.out]
    exact ⟨rfl, HMC.out, HFR.out⟩
  · have e0 : ((x.kind : Int) != 0) = true := by simp; omega
    have HP := Lib.hid (show popM σ = putM (entNd x) x.kids { σ with opn := K } by unfold popM; rw [HX.out]; simp only; unfold popX; rw [if_neg hk0])
    have hxm := HG.out.ents x (by rw [HX.out]; exact List.mem_cons_self)
    have hn := HG.out.need
    rw [HX.out, need_cons] at hn
    have HQ := Lib.hid (landPut bx base g ts { σ with opn := K } (entNd x) x.kids _ (HLO.out.mono HFR.out.below.size) HMC.out (HG.out.ok HL.out.1 (Nat.le_refl _)) (by show x.kids ≤ σ.roots.length; rcases hxm.kinds with ⟨h1, -⟩ | ⟨-, -, h1 | h1⟩ <;> omega) ⟨by show small64 (x.kind : Int); unfold small64; have := hxm.kinds; omega, hxm.lo, hxm.hi, Nat.zero_le _⟩)
    clear hk0 hxm hn
    go_region
    go_wp2_with fail
    refine HQ.out.mono ?_
    rintro e w5 ⟨rfl, hm5, hf5⟩
    go_wp2_with fail
    go_end0
    rw [HP.out]
    exact ⟨rfl, hm5, HFR.out.trans hf5⟩
end Go.Proofs.YthcbgneoonekkaaGreatDoor.Parse

namespace Go.Proofs.YthcbgneoonekkaaGreatDoor.Parse
open Go.RowKit Go.Proofs.YthcbgneoonekkaaGreatDoor.Ints Go.Proofs.YthcbgneoonekkaaGreatDoor.Lex Go.Proofs.YthcbgneoonekkaaGreatDoor.Tree

/-- How much is open, as memory has it. -/
def lenAt (w : World) (g : Nat) : Nat := match w.cell? ⟨g, 4, none⟩ with
  | some (.slice _ n _) => n
  | _ => 0
theorem PMemE.len {S : Nat → Prop} {w : World} {base g : Nat} {ts : List Tk} {σ : PS} (h : PMemE S w base g ts σ) : lenAt w g = σ.opn.length := by
  obtain ⟨tv, ov, nv, rv, SN, h⟩ := h
  obtain ⟨A, c, rfl, -⟩ := own_sliceN h.opn
  unfold lenAt
  rw [h.blk.cell 4 rfl]
theorem popM_eq {σ : PS} {x : Ent} {K : List Ent} (h : σ.opn = x :: K) : popM σ = popX x K σ := by unfold popM; rw [h]
theorem Good.above {M e : Nat} {σ : PS} (h : Good M e σ) {x : Ent} {K : List Ent} (hx : σ.opn = x :: K) (hl : x ≠ ent0 x.reg) : ∃ K' g, K = K' ++ [ent0 g] := by
  obtain ⟨K', g, hb⟩ := h.bot
  rw [hx] at hb
  cases K' with
  | nil =>
    exfalso
    injection hb with h1 h2
    exact hl (by rw [h1]; rfl)
  | cons y K' =>
    injection hb with h1 h2
    exact ⟨K', g, h2⟩
theorem fin_good {M lev : Nat} (hl : 1 ≤ lev) : ∀ (o : List Ent) (σ : PS), σ.opn = o → Good M 1 σ → Good M 1 (finM lev σ)
  | [], σ, ho, h => by
    obtain ⟨x, K, hx⟩ := h.split
    rw [ho] at hx
    cases hx
  | x :: K, σ, ho, h => by
    by_cases hx : lev ≤ x.level
    · rw [fin_pop ho hx, ← popM_eq ho]
      exact fin_good hl K (popM σ) (by rw [popM_eq ho]; exact pop_opn x K σ) (pop_good h ho (h.above ho (fun e => by rw [e] at hx; exact absurd hx (by show ¬ lev ≤ 0; omega))))
    · rw [fin_stop ho (by omega)]
      exact h

set_option maxHeartbeats 4000000 in
theorem landFinish (bx : Option Nat) (base g M : Nat) (ts : List Tk) (σ : PS) (lev : Nat) (w : World) (hlow : Low bx w) (h : PMemE (Aw bx) w base g ts σ) (hg : Good M 1 σ) (hM : M ≤ 5000) (hl : 1 ≤ lev) :
    Calls Tryz.prog 42 #[.pointer (some ⟨g, 0, none⟩), .int .i64 (lev : Int)] w fun e w' => e = .returned (.tuple #[]) ∧ PMemE (Aw bx) w' base g ts (finM lev σ) ∧ Fr bx base w w' := by
  have HLO := Lib.hid hlow
  have HM := Lib.hid h
  have HG := Lib.hid hg
  have HL := Lib.hid (And.intro hM hl)
  clear hlow h hg hM hl
  go_enter Tryz.func42, Tryz.ntmps42
  go_wp2_with fail
  go_loopw [] (fun wr => ∃ τ, finM lev τ = finM lev σ ∧ Hid (Good M 1 τ) ∧ Hid (PMemE (Aw bx) wr base g ts τ) ∧ Hid (Fr bx base w wr)) (fun wr => lenAt wr g)
  case atStart => exact ⟨σ, rfl, HG.out, HM.out, Fr.refl _ _ _⟩
  case round =>
    obtain ⟨τ, hτ, HGT, HMT, HF⟩ := hrel
    obtain ⟨x, K, hx⟩ := HGT.out.split
    have HX := Lib.hid hx
    have HT := Lib.hid hτ
    have HTOP := Lib.hid (landTop base g ts τ x K wr HMT.out hx (by have := HGT.out.size; rw [hx, List.length_cons] at this; have := HL.out.1; omega))
    have q3 := fieldE3 x.kind x.lo x.hi x.kids x.level (Lex.bytes x.closer) x.reg x.depth
    clear hx hτ
    go_wp2_with fail
    refine HTOP.out.mono ?_
    rintro e w1 ⟨rfl, hb⟩
    have HB := Lib.hid hb
    clear hb
    by_cases hlx : lev ≤ x.level
    · have hle : (lev : Int) ≤ (x.level : Int) := by omega
      have hln : decide (lev ≤ x.level) = true := decide_eq_true hlx
      have hab := HGT.out.above HX.out (fun e => by rw [e] at hlx; exact absurd hlx (by show ¬ lev ≤ 0; have := HL.out.2; omega))
      have HAB := Lib.hid hab
      have HLX := Lib.hid hlx
      have HW := Lib.hid (HLO.out.mono (Nat.le_trans HF.out.below.size HB.out.size))
      clear hab hlx
      go_wp2_with fail
      refine (landPop bx base g M ts τ x K w1 HW.out (HMT.out.later HB.out) HGT.out HL.out.1 HX.out).mono ?_
      rintro e w2 ⟨rfl, hm, hf⟩
      have HM2 := Lib.hid hm
      have HF2 := Lib.hid ((HF.out.trans (Fr.later HB.out HMT.out.base)).trans hf)
      clear hm hf
      go_wp2_with fail
      go_roundw
      case rel => exact ⟨popM τ, by rw [← HT.out, popM_eq HX.out, ← fin_pop HX.out HLX.out], pop_good HGT.out HX.out HAB.out, HM2.out, HF2.out⟩
      case measure =>
        rw [HM2.out.len, HMT.out.len, HX.out, popM_eq HX.out, pop_opn, List.length_cons]
        exact Nat.lt_succ_self _
    · have hle : decide ((lev : Int) ≤ (x.level : Int)) = false := decide_eq_false (by omega)
      have hln : decide (lev ≤ x.level) = false := decide_eq_false hlx
      have HE := Lib.hid (show finM lev σ = τ by rw [← HT.out]; exact fin_stop HX.out (by omega))
      have HF2 := Lib.hid (HF.out.trans (Fr.later HB.out HMT.out.base))
      clear hlx
      go_wp2_with fail
      go_end0
      rw [HE.out]
      exact ⟨rfl, HMT.out.later HB.out, HF2.out⟩

set_option maxHeartbeats 4000000 in
theorem landEnd (bx : Option Nat) (base g M : Nat) (ts : List Tk) (σ : PS) (w : World) (hlow : Low bx w) (h : PMemE (Aw bx) w base g ts σ) (hg : Good M 1 σ) (hM : M ≤ 5000) :
    Calls Tryz.prog 90 #[.pointer (some ⟨g, 0, none⟩)] w fun e w' => e = .returned (.tuple #[]) ∧ PMemE (Aw bx) w' base g ts (endM σ) ∧ Fr bx base w w' := by
  have HF := Lib.hid (landFinish bx base g M ts σ 5 w hlow h hg hM (by omega))
  clear hlow h hg hM
  go_enter Tryz.func90, Tryz.ntmps90
  go_wp2_with fail
  refine HF.out.mono ?_
  rintro e w1 ⟨rfl, hm, hf⟩
  obtain ⟨tv, ov, nv, rv, SN, hm⟩ := hm
  have c2 := hm.blk.cell 2 rfl
  have f2 := hm.blk.fz 2 rfl
  have HM2 := Lib.hid (hm.store (σ' := endM σ) 2 (.bool true) rfl (by decide) hm.suf rfl rfl rfl)
  have HF2 := Lib.hid (hf.setCell (p := ⟨g, 2, none⟩) hm.hg hm.sg (.bool true))
  clear hm hf
  go_wp2_with fail
  go_end0
  exact ⟨rfl, ⟨_, _, _, _, _, HM2.out⟩, HF2.out⟩
end Go.Proofs.YthcbgneoonekkaaGreatDoor.Parse
