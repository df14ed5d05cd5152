/-
  Parse of a formula's text is the formula, where no limit is passed. By an AI agent.
-/
import Derived.Test.YthcbgneoonekkaaGreatDoorGShowBack37
namespace Go.Proofs.YthcbgneoonekkaaGreatDoor.Show
open Go.Proofs.YthcbgneoonekkaaGreatDoor.Tree Go.Proofs.YthcbgneoonekkaaGreatDoor.Lex Go.Proofs.YthcbgneoonekkaaGreatDoor.Parse

theorem start_root {l : List Nd} (h : mayL l = true) : startL l (l.length - 1) = 0 := by
  have hT := tiles_upTo h l.length [l.length - 1] (Nat.le_refl _) (may_top h)
  exact hT.1.2.2.2
theorem noop_end (g : Bool) (p : Nat) : NoOp g 0 [⟨0, [], 0, p⟩] := ⟨fun L' _ _ => by
  show (if (betwK g []).2 = L' + 1 then (betwK g []).1 else 0) = 0
  have e : betwK g [] = (0, 0) := by cases g <;> decide
  rw [e]; split <;> rfl, fun _ => by show ([] : List UInt8) ≠ [42]; decide⟩
/-- What the tokens of a formula's text are. -/
theorem text_lex {l : List Nd} {n : Nd} (h : mayL l = true) (hn : l[l.length - 1]? = some n) (hs : (textL l).length ≤ 2000) :
    ∃ ts, lexS (textL l) = (ts ++ [⟨0, [], 0, (textL l).length⟩], 0, 0) ∧ Own l (l.length - 1) n ts := by
  obtain ⟨ts, h1, h2⟩ := own_all h _ n hn 0 [] (fun c hc => by cases hc)
  rw [List.append_nil, Nat.zero_add, lexAt_nil, ← textL_eq h] at h2
  refine ⟨ts, ?_, h1⟩
  unfold lexS
  rw [if_neg (by omega), h2]
  rfl
theorem text_row {l : List Nd} {n : Nd} {ts : List Tk} (h : mayL l = true) (ho : Own l (l.length - 1) n ts) (hl : l.length ≤ 200) {d : Nat} (hd : d + nestL l ≤ 40 ∨ 40 < d) (rest : List Tk) (hno : NoOp (regKind n.kind) 0 rest) :
    D (.row (regKind n.kind) 0) d ⟨ts ++ rest, 0, []⟩ (.ok ⟨rest, l.length, l⟩ ((l.length - 1 : Nat) : Int)) := by
  have h0 := may_ne h
  have hst := start_root h
  have hnest : nestL l = nst l (l.length - 1) := if_pos h
  have hr : R l (regKind n.kind) (nst l (l.length - 1)) 0 (l.length - 1) ts := ho.1.rr (Nat.zero_le _) (by have := rank_pos n.kind; omega)
  have hsz : sz l (l.length - 1) = l.length := by unfold sz; omega
  have := hr d 0 rest (by omega) (by rw [hsz]; omega) hno
  rw [hsz, hst, Nat.zero_add, show l.length - 1 + 1 = l.length by omega, List.take_length, List.take_zero] at this
  exact this
theorem text_back {l : List Nd} {g : Bool} (h : mayL l = true) (hg : regKind (lastKind l) = g) (hl : l.length ≤ 200) (hs : (textL l).length ≤ 2000) (hd : nestL l ≤ 40) : parseS g (textL l) = (l, 0, 0) := by
  have h0 := may_ne h
  obtain ⟨n, hn⟩ : ∃ n, l[l.length - 1]? = some n := ⟨_, List.getElem?_eq_getElem (by omega)⟩
  have hk : lastKind l = n.kind := by
    unfold lastKind
    rw [List.getLast?_eq_getElem?, hn]; rfl
  obtain ⟨ts, h1, h2⟩ := text_lex h hn hs
  rw [hk] at hg
  have hD := text_row h h2 hl (d := 0) (by omega) [⟨0, [], 0, (textL l).length⟩] (noop_end _ _)
  rw [hg] at hD
  have hG := (lexS_good (bs := textL l) (by rw [h1])).1
  rw [h1] at hG
  unfold parseS
  rw [h1, if_neg (fun h => h rfl)]
  show outM (allM g (ts ++ [_])) = _
  rw [sim_whole hG.allOk hD]
  rfl
end Go.Proofs.YthcbgneoonekkaaGreatDoor.Show
