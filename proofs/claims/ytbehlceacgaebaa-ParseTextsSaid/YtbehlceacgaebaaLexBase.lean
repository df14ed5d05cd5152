/-
  Tokens: what the walks of package lex and of the reference share. By an AI agent.
-/
import Derived.Test.YtbehlceacgaebaaLexN
namespace Go.Proofs.Ytbehlceacgaebaa.Lex
open Go.RowKit

theorem infoTok : (Try.prog.info? 47).map (fun i => (i.zero, i.size, i.bytes)) = some (some (.agg #[.int .i64 0, .string { data := #[] }, .int .i64 0, .int .i64 0]), 4, 40) := by kernel_rfl
/-- What a walk of Lex leaves: the tokens, the place, the error. -/
def LexPost (w : World) (L : List UInt8) (e : Ending) (w' : World) : Prop :=
  ∃ v, e = .returned (.tuple #[v, .int .i64 ((lexS L).2.1 : Int), .int .i64 ((lexS L).2.2 : Int)]) ∧ w'.ownsRow w.heap.size 47 4 v (lexS L).1.length (rowTk (lexS L).1) ∧ Below w.heap.size w w'
theorem post_bad {w w' : World} {L : List UInt8} {p : Nat} (hl : ¬ 2000 < L.length) (h : lexAt 0 L = .bad p) (hB : Below w.heap.size w w') : LexPost w L (.returned (.tuple #[.slice none 0 0, .int .i64 (p : Int), .int .i64 2])) w' := by
  have e : lexS L = ([], p, 2) := by unfold lexS; rw [if_neg hl, h]
  refine ⟨_, by rw [e]; rfl, ?_, hB⟩
  rw [e]
  exact World.ownsRow_nil _ _ _ _
theorem post_ok {w w' : World} {L : List UInt8} {l : List Tk} {v : Value} (hl : ¬ 2000 < L.length) (h : lexAt 0 L = .ok l) (ho : w'.ownsRow w.heap.size 47 4 v l.length (rowTk l)) (hB : Below w.heap.size w w') : LexPost w L (.returned (.tuple #[v, .int .i64 0, .int .i64 0])) w' := by
  have e : lexS L = (l, 0, 0) := by unfold lexS; rw [if_neg hl, h]
  refine ⟨_, by rw [e]; rfl, ?_, hB⟩
  rw [e]
  exact ho
theorem post_many {w : World} {L : List UInt8} (hl : 2000 < L.length) : LexPost w L (.returned (.tuple #[.slice none 0 0, .int .i64 0, .int .i64 4])) w := by
  have e : lexS L = ([], 0, 4) := by unfold lexS; rw [if_pos hl]
  refine ⟨_, by rw [e]; rfl, ?_, Below.refl _ _⟩
  rw [e]
  exact World.ownsRow_nil _ _ _ _

/-- What Lex leaves, for the laws: the tokens, the place, the error. -/
def LexGot (w : World) (r : List Tk × Nat × Nat) (e : Ending) (w' : World) : Prop :=
  ∃ v, e = .returned (.tuple #[v, .int .i64 (r.2.1 : Int), .int .i64 (r.2.2 : Int)]) ∧ Toks w' v r.1 ∧ Below w.heap.size w w'
theorem LexPost.got {w w' : World} {L : List UInt8} {e : Ending} (h : LexPost w L e w') : LexGot w (lexS L) e w' := by
  obtain ⟨v, h1, h2, h3⟩ := h
  exact ⟨v, h1, Toks.own h2, h3⟩
theorem toks_some {w : World} {v : Value} {t : Tk} {l : List Tk} (h : Toks w v (t :: l)) : ∃ b c, v = .slice (some ⟨b, 0, none⟩) (l.length + 1) c ∧ b < w.heap.size ∧ ∀ (j : Nat) (u : Tk), (t :: l)[j]? = some u →
      w.cell? ⟨b, 4 * j, none⟩ = some (.int .i64 (u.kind : Int)) ∧ w.cell? ⟨b, 4 * j + 1, none⟩ = some (.string (bytes u.text)) ∧ w.cell? ⟨b, 4 * j + 2, none⟩ = some (.int .i64 (u.num : Int)) ∧ w.cell? ⟨b, 4 * j + 3, none⟩ = some (.int .i64 (u.pos : Int)) := by
  obtain ⟨A, c, rfl, h2, h3⟩ := h
  obtain ⟨b, rfl, h4⟩ := h3 (by simp)
  exact ⟨b, c, rfl, h2 _ rfl, h4⟩
theorem toks_nil {w : World} {v : Value} (h : Toks w v []) : ∃ A c, v = .slice A 0 c := by
  obtain ⟨A, c, h1, -, -⟩ := h
  exact ⟨A, c, h1⟩

end Go.Proofs.Ytbehlceacgaebaa.Lex
