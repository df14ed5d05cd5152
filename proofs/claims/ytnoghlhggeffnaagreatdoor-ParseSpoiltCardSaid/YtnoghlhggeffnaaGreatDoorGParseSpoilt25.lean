/-
  What Lex tells is good for a reader: words, signs, numbers, one end. By an AI agent.
  The walks of the landed reader's take and number. By an AI agent.
-/
import Derived.Test.YtnoghlhggeffnaaGreatDoorGParseSpoilt24
import Derived.Test.YtnoghlhggeffnaaGreatDoorGParseSpoilt23
namespace Go.Proofs.YtnoghlhggeffnaaGreatDoor.Parse
open Go.Proofs.YtnoghlhggeffnaaGreatDoor.Lex Go.Proofs.YtnoghlhggeffnaaGreatDoor.Tree

def GoodT : List Tk → Prop
  | [] => False
  | t :: r => (TokOk t ∧ t.num ≤ 9999 ∧ t.text.length ≤ 16) ∧ (t.kind = 0 ∧ r = [] ∨ t.kind ≠ 0 ∧ GoodT r)
theorem GoodT.split {ts : List Tk} (h : GoodT ts) : ∃ t r, ts = t :: r ∧ TokOk t ∧ t.num ≤ 9999 ∧ t.text.length ≤ 16 ∧ (t.kind = 0 ∧ r = [] ∨ t.kind ≠ 0 ∧ GoodT r) := by
  cases ts with
  | nil => exact h.elim
  | cons t r => exact ⟨t, r, rfl, h.1.1, h.1.2.1, h.1.2.2, h.2⟩
theorem GoodT.allOk : ∀ {ts : List Tk}, GoodT ts → AllOk ts
  | [], h => h.elim
  | t :: r, h => by
    intro u hu
    rcases List.mem_cons.1 hu with rfl | hu
    · exact h.1.1
    · rcases h.2 with ⟨-, rfl⟩ | ⟨-, h2⟩
      · cases hu
      · exact GoodT.allOk h2 u hu
theorem GoodT.tail {ts : List Tk} (h : GoodT ts) (hk : kindOf ts ≠ 0) : GoodT ts.tail := by
  obtain ⟨t, r, rfl, -, -, -, h1⟩ := h.split
  rcases h1 with ⟨h1, -⟩ | ⟨-, h1⟩
  · exact absurd h1 hk
  · exact h1
theorem GoodT.next {ts : List Tk} (h : GoodT ts) (ht : textOf ts ≠ []) : GoodT ts.tail := h.tail (kind_end h.allOk ht)
theorem GoodT.num {ts : List Tk} (h : GoodT ts) : numAt ts ≤ 9999 := by
  obtain ⟨t, r, rfl, -, h2, -, -⟩ := h.split
  exact h2
theorem GoodT.before : ∀ (l : List Tk) {m : List Tk}, (∀ t ∈ l, TokOk t ∧ t.num ≤ 9999 ∧ t.text.length ≤ 16 ∧ t.kind ≠ 0) → GoodT m → GoodT (l ++ m)
  | [], _, _, h => h
  | t :: l, m, h1, h => by
    obtain ⟨a, b, c, d⟩ := h1 t (by simp)
    exact ⟨⟨a, b, c⟩, Or.inr ⟨d, GoodT.before l (fun u hu => h1 u (by simp [hu])) h⟩⟩

theorem sign_small {c : UInt8} (h : isSign c = true) : small c = false := by
  simp only [isSign, signs, decide_eq_true_eq, List.mem_cons, List.not_mem_nil, or_false] at h
  simp only [small, decide_eq_false_iff_not]
  omega
theorem piece_tok_ok {c : UInt8} {r : List UInt8} {n k v : Nat} {tx : List UInt8} (h : piece c r = some (n, some (k, tx, v))) (p : Nat) : TokOk ⟨k, tx, v, p⟩ ∧ v ≤ 9999 ∧ tx.length ≤ 16 ∧ k ≠ 0 := by
  unfold piece at h
  split at h
  · cases h
  · split at h
    · next hs =>
      split at h
      · cases h
      · next h16 =>
        simp only [Option.some.injEq, Prod.mk.injEq] at h
        obtain ⟨-, rfl, rfl, rfl⟩ := h
        have hp : 1 ≤ run true (c :: r) := run_pos (words := true) (small_word hs)
        obtain ⟨q, hq⟩ : ∃ q, run true (c :: r) = q + 1 := ⟨run true (c :: r) - 1, by omega⟩
        rw [hq] at h16 ⊢
        refine ⟨Or.inr (Or.inl ⟨rfl, c, r.take q, rfl, hs⟩), by omega, ?_, by simp⟩
        rw [List.length_take]
        omega
    · split at h
      · split at h
        · cases h
        · next h4 =>
          simp only [Option.some.injEq, Prod.mk.injEq] at h
          obtain ⟨-, rfl, rfl, rfl⟩ := h
          refine ⟨Or.inr (Or.inr ⟨Or.inl rfl, rfl⟩), ?_, by simp, by simp⟩
          have := numOf_lt (run false (c :: r)) (c :: r) (Nat.le_refl _)
          have h5 : 10 ^ run false (c :: r) ≤ 10 ^ 4 := Nat.pow_le_pow_right (by omega) (by omega)
          have h6 : (10 : Nat) ^ 4 = 10000 := by decide
          omega
      · split at h
        · simp only [Option.some.injEq, Prod.mk.injEq] at h
          obtain ⟨-, rfl, rfl, rfl⟩ := h
          exact ⟨Or.inl ⟨rfl, 45, [62], rfl, by decide⟩, by omega, by simp, by simp⟩
        · split at h
          · next hs =>
            simp only [Option.some.injEq, Prod.mk.injEq] at h
            obtain ⟨-, rfl, rfl, rfl⟩ := h
            exact ⟨Or.inl ⟨rfl, c, [], rfl, sign_small hs⟩, by omega, by simp, by simp⟩
          · cases h
theorem lexF_good : ∀ (f p : Nat) (bs : List UInt8) (l : List Tk), lexF f p bs = .ok l → GoodT l := by
  intro f
  have he : ∀ p, GoodT [⟨0, [], 0, p⟩] := fun p => ⟨⟨Or.inr (Or.inr ⟨Or.inr rfl, rfl⟩), Nat.zero_le _, Nat.zero_le _⟩, Or.inl ⟨rfl, rfl⟩⟩
  induction f with
  | zero =>
    intro p bs l h
    cases bs with
    | nil => simp only [lexF, Res.ok.injEq] at h; rw [← h]; exact he p
    | cons c r => simp [lexF] at h
  | succ f ih =>
    intro p bs l h
    cases bs with
    | nil => simp only [lexF, Res.ok.injEq] at h; rw [← h]; exact he p
    | cons c r =>
      simp only [lexF] at h
      cases hp : piece c r with
      | none => rw [hp] at h; cases h
      | some x =>
        obtain ⟨n, t⟩ := x
        rw [hp] at h
        simp only at h
        cases hl : lexF f (p + n) ((c :: r).drop n) with
        | bad q => rw [hl] at h; cases h
        | ok m =>
          rw [hl] at h
          have hm := ih _ _ _ hl
          simp only [Res.before, Res.ok.injEq] at h
          rw [← h]
          refine GoodT.before _ (fun u hu => ?_) hm
          cases t with
          | none => cases hu
          | some y =>
            obtain ⟨k, tx, v⟩ := y
            rw [List.mem_singleton.1 hu]
            exact piece_tok_ok hp p
theorem lexS_good {bs : List UInt8} (h : (lexS bs).2.2 = 0) : GoodT (lexS bs).1 ∧ (lexS bs).1.length ≤ 2001 := by
  unfold lexS at h ⊢
  split at h
  · cases h
  · next hn =>
    rw [if_neg hn]
    cases hl : lexAt 0 bs with
    | bad p => rw [hl] at h; cases h
    | ok l => exact ⟨lexF_good _ _ _ _ hl, by have := lexF_len _ _ _ _ hl; show l.length ≤ 2001; omega⟩
end Go.Proofs.YtnoghlhggeffnaaGreatDoor.Parse

namespace Go.Proofs.YtnoghlhggeffnaaGreatDoor.Parse
open Go.RowKit Go.Proofs.YtnoghlhggeffnaaGreatDoor.Ints Go.Proofs.YtnoghlhggeffnaaGreatDoor.Lex Go.Proofs.YtnoghlhggeffnaaGreatDoor.Tree

theorem bytes_cmp (a b : List UInt8) : ((Lex.bytes a).toList == (Lex.bytes b).toList) = decide (a = b) := by
  rw [ByteArray.toList_eq, ByteArray.toList_eq]
  show (a == b) = _
  rw [Bool.eq_iff_iff, beq_iff_eq, decide_eq_true_iff]
theorem bytes_ncmp (a b : List UInt8) : ((Lex.bytes a).toList != (Lex.bytes b).toList) = !(decide (a = b)) := by rw [bne, bytes_cmp]
theorem grown_store {w w1 : World} {g k : Nat} (h : Below w.heap.size w w1) (u : Value) : w.grownBy (w1.setCell ⟨g, k, none⟩ u) (some g) :=
  ⟨h.os, h.tape, h.output, by simpa using h.size, fun i hi hne => (Below.heap_setCell w1 ⟨g, k, none⟩ u i (fun e => hne (by rw [e]))).trans (h.block i hi)⟩
theorem grown_below {w w1 : World} {g base : Nat} (h : w.grownBy w1 (some g)) (hg : base ≤ g) (hb : base ≤ w.heap.size) : Below base w w1 :=
  ⟨h.os, h.tape, h.output, h.size, fun i hi => h.block i (by omega) (fun e => by injection e with e; omega)⟩
theorem PMemE.hg {S : Nat → Prop} {w : World} {base g : Nat} {ts : List Tk} {σ : PS} (h : PMemE S w base g ts σ) : base ≤ g ∧ g < w.heap.size := by
  obtain ⟨tv, ov, nv, rv, SN, h⟩ := h
  exact ⟨h.hg, h.blk.1⟩
/-- One token on. -/
theorem PMem.next {S : Nat → Prop} {w : World} {base g : Nat} {ts : List Tk} {tv ov nv rv : Value} {SN : List SNd} {σ : PS} {t : Tk} {r : List Tk} (h : PMem S w base g ts tv ov nv rv SN σ) (hr : σ.rest = t :: r) {j : Nat} (hj : ts.length - σ.rest.length = j) :
    PMem S (w.setCell ⟨g, 1, none⟩ (.int .i64 ((j : Int) + 1))) base g ts tv ov nv rv SN { σ with rest := r } := by
  have hs : r <:+ ts := (List.suffix_cons t r).trans (hr ▸ h.suf)
  refine h.store 1 _ ?_ (by decide) hs rfl rfl rfl
  unfold cellsP
  simp only [List.set]
  have hl := h.suf.length_le
  rw [hr] at hl hj
  simp only [List.length_cons] at hl hj
  have e : ((ts.length - r.length : Nat) : Int) = (j : Int) + 1 := by omega
  rw [e]
def NotG (g : Nat) (w w' : World) : Prop := w.grownBy w' (some g)

set_option maxHeartbeats 2000000 in
theorem landTake {S : Nat → Prop} (base g : Nat) (ts : List Tk) (σ : PS) (t : Tk) (r : List Tk) (u : List UInt8) (w : World) (h : PMemE S w base g ts σ) (hr : σ.rest = t :: r) (hl : ts.length ≤ 5000) (hu : t.text = u) :
    Calls Tryz.prog 115 #[.pointer (some ⟨g, 0, none⟩), .string (Lex.bytes u)] w fun e w' => e = .returned (.bool true) ∧ PMemE S w' base g ts { σ with rest := r } ∧ w.grownBy w' (some g) := by
  have HT := Lib.hid (landTok base g ts σ t r w h hr hl)
  obtain ⟨tv, ov, nv, rv, SN, h⟩ := h
  have HM := Lib.hid h
  obtain ⟨j, hj⟩ : ∃ j, ts.length - σ.rest.length = j := ⟨_, rfl⟩
  have hj5 : (j : Int) ≤ 5000 := by omega
  have hj0 : (0 : Int) ≤ (j : Int) := by omega
  have HJ := Lib.hid hj
  have HR := Lib.hid hr
  have hc : ((Lex.bytes t.text).toList == (Lex.bytes u).toList) = true := by rw [bytes_cmp, hu]; simp
  have q1 := fieldT1 t.kind (Lex.bytes t.text) t.num t.pos
  obtain ⟨z, hz⟩ : ∃ z, Lex.bytes t.text = z := ⟨_, rfl⟩
  rw [hz] at HT hc q1
  clear h hr hl hu hj hz
  go_enter Tryz.func115, Tryz.ntmps115
  go_wp2_with (go_at_call 41; refine HT.out.mono ?_; rintro e w1 ⟨rfl, hb⟩; have c1 := (HM.out.later hb).blk.cell 1 rfl; have f1 := (HM.out.later hb).blk.fz 1 rfl; rw [HJ.out] at c1; have HB := Lib.hid hb; clear hb)
  go_ret
  exact ⟨rfl, ⟨tv, ov, nv, rv, SN, (HM.out.later HB.out).next HR.out HJ.out⟩, grown_store HB.out _⟩
set_option maxHeartbeats 2000000 in
theorem landTakeNo {S : Nat → Prop} (base g : Nat) (ts : List Tk) (σ : PS) (t : Tk) (r : List Tk) (u : List UInt8) (w : World) (h : PMemE S w base g ts σ) (hr : σ.rest = t :: r) (hl : ts.length ≤ 5000) (hu : t.text ≠ u) :
    Calls Tryz.prog 115 #[.pointer (some ⟨g, 0, none⟩), .string (Lex.bytes u)] w fun e w' => e = .returned (.bool false) ∧ PMemE S w' base g ts σ ∧ Below w.heap.size w w' := by
  have HT := Lib.hid (landTok base g ts σ t r w h hr hl)
  have HM := Lib.hid h
  have hc : ((Lex.bytes t.text).toList == (Lex.bytes u).toList) = false := by rw [bytes_cmp, decide_eq_false hu]
  have q1 := fieldT1 t.kind (Lex.bytes t.text) t.num t.pos
  obtain ⟨z, hz⟩ : ∃ z, Lex.bytes t.text = z := ⟨_, rfl⟩
  rw [hz] at HT hc q1
  clear h hr hl hu hz
  go_enter Tryz.func115, Tryz.ntmps115
  go_wp2_with (go_at_call 41; refine HT.out.mono ?_; rintro e w1 ⟨rfl, hb⟩)
  go_ret
  exact ⟨rfl, HM.out.later hb, hb⟩


set_option maxHeartbeats 4000000 in
theorem landNumber {S : Nat → Prop} (base g : Nat) (ts : List Tk) (σ : PS) (t : Tk) (r : List Tk) (bx o : Nat) (vs : List Value) (v0 : Value) (least : Int) (w : World) (h : PMemE S w base g ts σ) (hr : σ.rest = t :: r) (hl : ts.length ≤ 5000)
    (hB : Blk w bx vs) (hv : vs[o]? = some v0) (hS : ¬ S bx) (hlow : base ≤ bx) (hk : t.kind = 2) (hn : least ≤ (t.num : Int)) :
    Calls Tryz.prog 116 #[.pointer (some ⟨g, 0, none⟩), .pointer (some ⟨bx, o, none⟩), .int .i64 least] w fun e w' => e = .returned (.bool true) ∧ PMemE S w' base g ts { σ with rest := r } ∧ Blk w' bx (vs.set o (.int .i64 (t.num : Int))) ∧
      w.heap.size ≤ w'.heap.size ∧ Below base w w' ∧ ∀ i, i < w.heap.size → i ≠ g → i ≠ bx → w'.heap[i]? = w.heap[i]? := by
  have HT := Lib.hid (landTok base g ts σ t r w h hr hl)
  obtain ⟨tv, ov, nv, rv, SN, h⟩ := h
  have hgb : g ≠ bx := fun e => hS (e ▸ h.sg)
  have HM := Lib.hid h
  obtain ⟨j, hj⟩ : ∃ j, ts.length - σ.rest.length = j := ⟨_, rfl⟩
  have hj5 : (j : Int) ≤ 5000 := by omega
  have hj0 : (0 : Int) ≤ (j : Int) := by omega
  have HJ := Lib.hid hj
  have HR := Lib.hid hr
  have HB := Lib.hid hB
  have HV := Lib.hid hv
  have HS := Lib.hid (show ¬ S bx ∧ base ≤ bx ∧ g ≠ bx from ⟨hS, hlow, hgb⟩)
  have hk2 : ((t.kind : Int) != 2) = false := by rw [hk]; rfl
  have hlt : decide ((t.num : Int) < least) = false := decide_eq_false (by omega)
  obtain ⟨n, hnn⟩ : ∃ n, t.num = n := ⟨_, rfl⟩
  rw [hnn] at HT hlt ⊢
  clear h hr hl hj hB hv hS hlow hk hn hnn hgb
  go_enter Tryz.func116, Tryz.ntmps116
  go_wp2_with fail
  refine HT.out.mono ?_
  rintro e w1 ⟨rfl, hb⟩
  have hc := fun q : Obj => ((HB.out.later hb).alloc q).cell _ HV.out
  have hf := fun q : Obj => ((HB.out.later hb).alloc q).fz _ HV.out
  have hM1 := fun q : Obj => (HM.out.later hb).later ((Below.refl _ _).alloc (Nat.le_refl _) q)
  have c1 := fun (q : Obj) (u : Value) => ((hM1 q).far bx o u HS.out.1 HS.out.2.1).blk.cell 1 rfl
  have f1 := fun (q : Obj) => (hM1 q).blk.fz 1 rfl
  rw [HJ.out] at c1
  have HW := Lib.hid hb
  clear hb
  go_wp2_with fail
  go_ret
  have hW1 : Below w.heap.size w (w1.alloc (.cells #[.int .i64 t.kind, .string (Lex.bytes t.text), .int .i64 n, .int .i64 t.pos] 74)) := HW.out.alloc HW.out.size _
  refine ⟨rfl, ⟨tv, ov, nv, rv, SN, ((hM1 _).far bx o (.int .i64 n) HS.out.1 HS.out.2.1).next HR.out HJ.out⟩, ?_, by simpa using hW1.size, ?_, fun i hi h1 h2 => ?_⟩
  · exact (((HB.out.later HW.out).alloc _).set o _ (List.getElem?_eq_some_iff.1 HV.out).1).other _ _ (fun e => HS.out.2.2 e.symm)
  · have hg := HM.out.hg
    have hb := HM.out.hb
    exact ((hW1.mono hb).setCell (p := ⟨bx, o, none⟩) HS.out.2.1 _).setCell (p := ⟨g, 1, none⟩) hg _
  · exact ((Below.heap_setCell _ ⟨g, 1, none⟩ _ i h1).trans (Below.heap_setCell _ ⟨bx, o, none⟩ _ i h2)).trans (hW1.block i hi)
set_option maxHeartbeats 4000000 in
theorem landNumberNo {S : Nat → Prop} (base g : Nat) (ts : List Tk) (σ : PS) (t : Tk) (r : List Tk) (q : Addr) (least : Int) (w : World) (h : PMemE S w base g ts σ) (hr : σ.rest = t :: r) (hl : ts.length ≤ 5000)
    (hk : t.kind ≠ 2 ∨ (t.num : Int) < least) :
    Calls Tryz.prog 116 #[.pointer (some ⟨g, 0, none⟩), .pointer (some q), .int .i64 least] w fun e w' => e = .returned (.bool false) ∧ PMemE S w' base g ts σ ∧ Below w.heap.size w w' := by
  have HT := Lib.hid (landTok base g ts σ t r w h hr hl)
  have HM := Lib.hid h
  by_cases hk2 : t.kind = 2
  · have hlt : decide ((t.num : Int) < least) = true := decide_eq_true (hk.resolve_left fun h => h hk2)
    have hkk : ((t.kind : Int) != 2) = false := by rw [hk2]; rfl
    clear h hr hl hk hk2
    go_enter Tryz.func116, Tryz.ntmps116
    go_wp2_with fail
    refine HT.out.mono ?_
    rintro e w1 ⟨rfl, hb⟩
    go_wp2_with fail
    go_ret
    exact ⟨rfl, HM.out.later (hb.alloc hb.size _), hb.alloc hb.size _⟩
  · have hkk : ((t.kind : Int) != 2) = true := by simp; omega
    clear h hr hl hk hk2
    go_enter Tryz.func116, Tryz.ntmps116
    go_wp2_with fail
    refine HT.out.mono ?_
    rintro e w1 ⟨rfl, hb⟩
    go_wp2_with fail
    go_ret
    exact ⟨rfl, HM.out.later (hb.alloc hb.size _), hb.alloc hb.size _⟩
end Go.Proofs.YtnoghlhggeffnaaGreatDoor.Parse
