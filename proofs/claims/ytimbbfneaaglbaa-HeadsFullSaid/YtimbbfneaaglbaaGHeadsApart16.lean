/-
  The walk of the reference's Get. By an AI agent.
  The walk of the reference's Records, of bytes without a fault. By an AI agent.
  The walk of the reference's Head, of bytes that a fault cuts off. Written by wip/tools/genrefhead10.py's variant. By an AI agent.
  Appends of integers at growslice's own bound (more than 2^47 bytes). By an AI agent.
-/
import Derived.Test.YtimbbfneaaglbaaGHeadsApart14
import Derived.Test.YtimbbfneaaglbaaGHeadsApart15
import Derived.RegionTactic
import Derived.Test.YtimbbfneaaglbaaGHeadsApart8
import Derived.Test.YtimbbfneaaglbaaGHeadsApart9
import Derived.StillTailTactics
import Derived.Test.YtimbbfneaaglbaaGHeadsApart1
import Derived.Deep.DeepAppendWide
namespace Go.Proofs.Ytimbbfneaaglbaa.Record
open Go.RowKit Go.Proofs.Ytimbbfneaaglbaa.Ints Go.Proofs.Ytimbbfneaaglbaa.Mem Go.Proofs.Ytimbbfneaaglbaa.SumMath Go.Proofs.Ytimbbfneaaglbaa.SumWalks Go.Proofs.Ytimbbfneaaglbaa.Trace

theorem below_allocN {w w' : World} {o : Obj} {q : Nat} (hb : Below ((w.alloc o).drewN q).heap.size ((w.alloc o).drewN q) w') : Below w.heap.size w w' :=
  (below_drewN ((Below.refl w.heap.size w).alloc (Nat.le_refl _) o) q).trans (hb.mono (by simp))
theorem len_two {zs : List Int} (h : 2 ≤ zs.length) : numR (zs.take 2) = 256 * zs[0]?.getD 0 + zs[1]?.getD 0 := by
  match zs, h with
  | a :: b :: l, _ =>
    simp [numR]
    omega

end Go.Proofs.Ytimbbfneaaglbaa.Record

namespace Go.Proofs.Ytimbbfneaaglbaa.Log
open Go.RowKit Go.Proofs.Ytimbbfneaaglbaa.Ints Go.Proofs.Ytimbbfneaaglbaa.Mem Go.Proofs.Ytimbbfneaaglbaa.SumMath Go.Proofs.Ytimbbfneaaglbaa.SumWalks Go.Proofs.Ytimbbfneaaglbaa.Trace Go.Proofs.Ytimbbfneaaglbaa.Record

/-- What a call that reads a log leaves: the trace, and a number. -/
def GotRecs (w : World) (t : Tr) (err : Nat) (e : Ending) (w' : World) : Prop :=
  ∃ NA nc EA ec, e = .returned (.tuple #[.agg #[.slice NA t.names.length nc, .slice EA t.events.length ec], .int .i64 (err : Nat)]) ∧ TrOk (fun b => w.heap.size ≤ b) w' NA t.names.length nc EA t.events.length ec t ∧ (∀ a, NA = some a → w.heap.size ≤ a.block) ∧ Below w.heap.size w w'
/-- A trace that stands in a call's variable, as it is handed back. -/
theorem recs_end {W : World} {NA : Option Addr} {nc g0 g : Nat} {ns : List (List UInt8)} {EA : Option Addr} {ec : Nat} {l : List SEv} (hstr : Strs W NA ns) (hNA : ∀ a, NA = some a → g0 < a.block) (hs : ∀ s ∈ ns, s.length ≤ maxLen) (hc : ns.length ≤ nc ∧ nc ≤ maxLen)
    (hrow : OwnEvs (fun b => g < b) W (g + 1) (.slice EA l.length ec) l) (hg : g0 < g) (u0 u1 : Value) : TrOk (fun b => g0 ≤ b) ((W.setCell ⟨g0, 0, none⟩ u0).setCell ⟨g0, 1, none⟩ u1) NA ns.length nc EA l.length ec ⟨ns, l.map (·.1)⟩ := by
  obtain ⟨EA', ec', e, hev, h1, h2⟩ := hrow.reads (fun b hb _ => hb)
  injection e with e1 _ e2
  subst e1; subst e2
  refine ⟨rfl, by simp, strs_set hstr (fun a e => by have := hNA a e; omega) _ _, hs, ?_, hc, h1, h2⟩
  exact (hev.keep fun p u hp hu => by rw [Record.set2_cell _ g0 _ _ _ (by have : g < p.block := hp; omega)]; exact hu).mono fun b _ hb => Nat.le_of_lt (Nat.lt_trans hg hb)

end Go.Proofs.Ytimbbfneaaglbaa.Log

namespace Go.Proofs.Ytimbbfneaaglbaa.Log
open Go.RowKit Go.Proofs.Ytimbbfneaaglbaa.Ints Go.Proofs.Ytimbbfneaaglbaa.Mem Go.Proofs.Ytimbbfneaaglbaa.SumMath Go.Proofs.Ytimbbfneaaglbaa.SumWalks Go.Proofs.Ytimbbfneaaglbaa.Trace Go.Proofs.Ytimbbfneaaglbaa.Record
open Go.Proofs.Ytimbbfneaaglbaa.Lex (nameS)

end Go.Proofs.Ytimbbfneaaglbaa.Log

namespace Go.Proofs.Ytimbbfneaaglbaa.Ints
open Go.RowKit
section
variable {P : Program} {w : World}
/-- 'append(v, xs...)': v is the call's own, xs reads as numbers; at growslice's own bound. -/
theorem run_append_ints_wide (k : IntKind) (base : Nat) (t ty e : TypeId) (i : TypeInfo) (bytes : Nat) (ht : P.underlying t = some (.slice e)) (hi : P.info? e = some i) (hz : i.zero = some (.int k 0))
    (hsize : i.size = 1) (hby : i.bytes = bytes) (v : Value) (n : Nat) (zs : List Int) (hown : w.ownsRow base e 1 v n (zs.map (Value.int k)))
    (A : Option Addr) (m c : Nat) (ys : List Int) (hr : Rd k w A m ys) (h63 : n + m ≤ maxLen) (hbytes : ((n + m) + (n + m) / 4 + 192) * bytes ≤ 281474976710656) (hbase : base ≤ w.heap.size) :
    ∃ v' w', (Builtin.append_ #[t, t] ty #[v, .slice A m c]).run P w = .ok v' w' ∧ w'.ownsRow base e 1 v' (n + m) ((zs ++ ys).map (Value.int k)) ∧ w.grownBy w' v.ownBlock := by
  cases A with
  | some ad =>
    have hnews : ∀ j u, (ys.map (Value.int k))[j]? = some u → w.cell? (ad.add j) = some u := fun j u hu => by
      have hj : j < ys.length := by
        rcases Nat.lt_or_ge j ys.length with h | h
        · exact h
        · simp [List.getElem?_eq_none h] at hu
      obtain ⟨b, off, e, hc⟩ := hr.cell (by have := hr.len; omega)
      injection e with e
      subst e
      have h1 := hc j (by have := hr.len; omega)
      have h2 : (⟨b, off, none⟩ : Addr).add j = ⟨b, off + j, none⟩ := by unfold Addr.add; split <;> simp_all
      rw [h2, h1]
      simpa [List.getElem?_eq_getElem hj] using hu
    obtain ⟨v', w', hrun, ho, hg, _⟩ := run_append_own_wide (P := P) w base t ty e i (.int k 0) 1 bytes ht hi hz hsize hby rfl (by decide) v n _ hown ad m c (ys.map (Value.int k)) (by simp [hr.len]) hnews (one_cell k ys) h63 hbytes hbase
    exact ⟨v', w', hrun, by rw [List.map_append]; exact ho, hg⟩
  | none =>
    have hm : m = 0 := by
      rcases Nat.eq_zero_or_pos m with h | h
      · exact h
      · obtain ⟨_, _, h', _⟩ := hr.cell h
        cases h'
    subst hm
    have hy : ys = [] := List.eq_nil_of_length_eq_zero hr.len
    subst hy
    refine ⟨v, w, ?_, by simpa using hown, World.grownBy.refl w _⟩
    rcases hown.2 with ⟨rfl, rfl⟩ | ⟨g, cap, cur, rfl, _, _, hnc, _⟩
    · simp [Builtin.append_, run_underlying ht, sizeOf, typeInfo, hi, Builtin.lenOf, Builtin.firstCells]
    · simp [Builtin.append_, run_underlying ht, sizeOf, typeInfo, hi, Builtin.lenOf, Builtin.firstCells, hnc, storeCells]
theorem wpList_append_ints_wide {ops : Array Oper} {rest : List Oper} {o : Oper} {a : Act} {Q : Exit → Act → World → Prop} (hgd : o.guard = none) (s x : Operand) (t : TypeId)
    (ho : o.op = .call { callee := .builtin .append, args := #[s, x], argTypes := #[t, t] }) (k : IntKind) (base : Nat) (e : TypeId) (i : TypeInfo) (bytes : Nat)
    (ht : P.underlying t = some (.slice e)) (hi : P.info? e = some i) (hz : i.zero = some (.int k 0)) (hsize : i.size = 1) (hby : i.bytes = bytes)
    (v : Value) (n : Nat) (zs : List Int) (hs : a.eval s = v) (hown : w.ownsRow base e 1 v n (zs.map (Value.int k)))
    (A : Option Addr) (m c : Nat) (ys : List Int) (hx : a.eval x = .slice A m c) (hr : Rd k w A m ys)
    (h63 : n + m ≤ maxLen) (hbytes : ((n + m) + (n + m) / 4 + 192) * bytes ≤ 281474976710656) (hbase : base ≤ w.heap.size)
    (h : ∀ v' w', w'.ownsRow base e 1 v' (n + m) ((zs ++ ys).map (Value.int k)) → w.grownBy w' v.ownBlock → wpList P ops Q rest (a.put o.dst v') w') : wpList P ops Q (o :: rest) a w := by
  refine wpList_plain hgd fun K hK => ?_
  obtain ⟨v', w', hrun, h1, h2⟩ := run_append_ints_wide (P := P) k base t o.type e i bytes ht hi hz hsize hby v n zs hown A m c ys hr h63 hbytes hbase
  unfold Oper.wp
  simp [execOp, ho, resolve, invoke, builtin, hs, hx, hrun, Result.andThen]
  exact hK _ _ (h v' w' h1 h2)
end
end Go.Proofs.Ytimbbfneaaglbaa.Ints
