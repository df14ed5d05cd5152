/-
  The grammar as it is read from the left, word by word: what each part leaves; and the landed reader does the same. By an AI agent.
-/
import Derived.Test.YtbljjmgmdcjocaaParseM
namespace Go.Proofs.Ytbljjmgmdcjocaa.Parse
open Go.Proofs.Ytbljjmgmdcjocaa.Lex Go.Proofs.Ytbljjmgmdcjocaa.Tree

/-- The parts of the grammar: rows of operands by level, what may stand behind an operand, operands, stars. -/
inductive NT where
  | row (g : Bool) (l : Nat)
  | ops (g : Bool) (l : Nat) (a : Int)
  | opd (g : Bool)
  | rep
  | stars (a : Int)
structure St where
  rest : List Tk
  made : Nat
  nodes : List Nd
inductive Out where
  | ok (s : St) (a : Int)
  | bad (c p : Nat)
/-- The kind of an operator of level l. -/
def opOf (g : Bool) (l : Nat) (t : List UInt8) : Nat := if (betwK g t).2 = l + 1 then (betwK g t).1 else 0
def lvl (g : Bool) : Nat := if g = true then 2 else 4
def nd1 (k : Nat) (lo hi : Int) (ks : List Int) : Nd := ⟨k, ⟨#[]⟩, lo, hi, ks⟩

inductive D : NT → Nat → St → Out → Prop where
  | rowUn {d : Nat} {s : St} {o : Out} : D (.opd false) d s o → D (.row false 4) d s o
  | rowRep {d : Nat} {s : St} {o : Out} : D .rep d s o → D (.row true 2) d s o
  | rowBad {g : Bool} {l d : Nat} {s : St} {c p : Nat} : l < lvl g → D (.row g (l + 1)) d s (.bad c p) → D (.row g l) d s (.bad c p)
  | row {g : Bool} {l d : Nat} {s s1 : St} {a : Int} {o : Out} : l < lvl g → D (.row g (l + 1)) d s (.ok s1 a) → D (.ops g l a) d s1 o → D (.row g l) d s o
  | opsEnd {g : Bool} {l d : Nat} {s : St} {a : Int} : opOf g l (textOf s.rest) = 0 → D (.ops g l a) d s (.ok s a)
  | opsMany {g : Bool} {l d : Nat} {s : St} {a : Int} : opOf g l (textOf s.rest) ≠ 0 → s.made = 200 → D (.ops g l a) d s (.bad 4 (posOf s.rest))
  | opsSpan {g : Bool} {l d : Nat} {s : St} {a : Int} {c p : Nat} : opOf g l (textOf s.rest) ≠ 0 → s.made ≠ 200 → spanM (opOf g l (textOf s.rest)) s.rest.tail = .error (c, p) → D (.ops g l a) d s (.bad c p)
  | opsBad {g : Bool} {l d : Nat} {s : St} {a lo hi : Int} {r : List Tk} {c p : Nat} : opOf g l (textOf s.rest) ≠ 0 → s.made ≠ 200 → spanM (opOf g l (textOf s.rest)) s.rest.tail = .ok (lo, hi, r) →
      D (.row g (l + 1)) d ⟨r, s.made + 1, s.nodes⟩ (.bad c p) → D (.ops g l a) d s (.bad c p)
  | opsGo {g : Bool} {l d : Nat} {s s2 : St} {a b lo hi : Int} {r : List Tk} {o : Out} : opOf g l (textOf s.rest) ≠ 0 → s.made ≠ 200 → spanM (opOf g l (textOf s.rest)) s.rest.tail = .ok (lo, hi, r) →
      D (.row g (l + 1)) d ⟨r, s.made + 1, s.nodes⟩ (.ok s2 b) → D (.ops g l (s2.nodes.length : Int)) d ⟨s2.rest, s2.made, s2.nodes ++ [nd1 (opOf g l (textOf s.rest)) lo hi [a, b]]⟩ o → D (.ops g l a) d s o
  | repBad {d : Nat} {s : St} {c p : Nat} : D (.opd true) d s (.bad c p) → D .rep d s (.bad c p)
  | rep {d : Nat} {s s1 : St} {a : Int} {o : Out} : D (.opd true) d s (.ok s1 a) → D (.stars a) d s1 o → D .rep d s o
  | starsEnd {d : Nat} {s : St} {a : Int} : textOf s.rest ≠ [42] → D (.stars a) d s (.ok s a)
  | starsMany {d : Nat} {s : St} {a : Int} : textOf s.rest = [42] → s.made = 200 → D (.stars a) d s (.bad 4 (posOf s.rest))
  | starsGo {d : Nat} {s : St} {a : Int} {o : Out} : textOf s.rest = [42] → s.made ≠ 200 → D (.stars (s.nodes.length : Int)) d ⟨s.rest.tail, s.made + 1, s.nodes ++ [nd1 22 0 0 [a]]⟩ o → D (.stars a) d s o
  | leafMany {g : Bool} {d : Nat} {s : St} {n : Nd} : leafOf g (textOf s.rest) = some n → s.made = 200 → D (.opd g) d s (.bad 4 (posOf s.rest))
  | leaf {g : Bool} {d : Nat} {s : St} {n : Nd} : leafOf g (textOf s.rest) = some n → s.made ≠ 200 → D (.opd g) d s (.ok ⟨s.rest.tail, s.made + 1, s.nodes ++ [n]⟩ (s.nodes.length : Int))
  | parDeep {g : Bool} {d : Nat} {s : St} : textOf s.rest = [40] → d = 40 → D (.opd g) d s (.bad 3 (posOf s.rest))
  | parBad {g : Bool} {d : Nat} {s : St} {c p : Nat} : textOf s.rest = [40] → d ≠ 40 → D (.row g 0) (d + 1) ⟨s.rest.tail, s.made, s.nodes⟩ (.bad c p) → D (.opd g) d s (.bad c p)
  | parMiss {g : Bool} {d : Nat} {s s1 : St} {a : Int} : textOf s.rest = [40] → d ≠ 40 → D (.row g 0) (d + 1) ⟨s.rest.tail, s.made, s.nodes⟩ (.ok s1 a) → textOf s1.rest ≠ [41] → D (.opd g) d s (.bad 2 (posOf s1.rest))
  | par {g : Bool} {d : Nat} {s s1 : St} {a : Int} : textOf s.rest = [40] → d ≠ 40 → D (.row g 0) (d + 1) ⟨s.rest.tail, s.made, s.nodes⟩ (.ok s1 a) → textOf s1.rest = [41] → D (.opd g) d s (.ok ⟨s1.rest.tail, s1.made, s1.nodes⟩ a)
  | preDeep {g : Bool} {d : Nat} {s : St} : preOf g (textOf s.rest) ≠ 0 → d = 40 → D (.opd g) d s (.bad 3 (posOf s.rest))
  | preMany {g : Bool} {d : Nat} {s : St} : preOf g (textOf s.rest) ≠ 0 → d ≠ 40 → s.made = 200 → D (.opd g) d s (.bad 4 (posOf s.rest))
  | preSpan {g : Bool} {d : Nat} {s : St} {c p : Nat} : preOf g (textOf s.rest) ≠ 0 → d ≠ 40 → s.made ≠ 200 → spanM (preOf g (textOf s.rest)) s.rest.tail = .error (c, p) → D (.opd g) d s (.bad c p)
  | preBad {g : Bool} {d : Nat} {s : St} {lo hi : Int} {r : List Tk} {c p : Nat} : preOf g (textOf s.rest) ≠ 0 → d ≠ 40 → s.made ≠ 200 → spanM (preOf g (textOf s.rest)) s.rest.tail = .ok (lo, hi, r) →
      D (.opd false) (d + 1) ⟨r, s.made + 1, s.nodes⟩ (.bad c p) → D (.opd g) d s (.bad c p)
  | pre {g : Bool} {d : Nat} {s s1 : St} {a lo hi : Int} {r : List Tk} : preOf g (textOf s.rest) ≠ 0 → d ≠ 40 → s.made ≠ 200 → spanM (preOf g (textOf s.rest)) s.rest.tail = .ok (lo, hi, r) →
      D (.opd false) (d + 1) ⟨r, s.made + 1, s.nodes⟩ (.ok s1 a) → D (.opd g) d s (.ok ⟨s1.rest, s1.made, s1.nodes ++ [nd1 (preOf g (textOf s.rest)) lo hi [a]]⟩ (s1.nodes.length : Int))
  | brMany {g : Bool} {d : Nat} {s : St} : braceOf g (textOf s.rest) ≠ 0 → s.made = 200 → D (.opd g) d s (.bad 4 (posOf s.rest))
  | brSpan {g : Bool} {d : Nat} {s : St} {c p : Nat} : braceOf g (textOf s.rest) ≠ 0 → s.made ≠ 200 → spanM (braceOf g (textOf s.rest)) s.rest.tail = .error (c, p) → D (.opd g) d s (.bad c p)
  | brMiss {g : Bool} {d : Nat} {s : St} {lo hi : Int} {r : List Tk} : braceOf g (textOf s.rest) ≠ 0 → s.made ≠ 200 → spanM (braceOf g (textOf s.rest)) s.rest.tail = .ok (lo, hi, r) → textOf r ≠ [123] → D (.opd g) d s (.bad 2 (posOf r))
  | brDeep {g : Bool} {d : Nat} {s : St} {lo hi : Int} {r : List Tk} : braceOf g (textOf s.rest) ≠ 0 → s.made ≠ 200 → spanM (braceOf g (textOf s.rest)) s.rest.tail = .ok (lo, hi, r) → textOf r = [123] → d = 40 → D (.opd g) d s (.bad 3 (posOf r))
  | brBad {g : Bool} {d : Nat} {s : St} {lo hi : Int} {r : List Tk} {c p : Nat} : braceOf g (textOf s.rest) ≠ 0 → s.made ≠ 200 → spanM (braceOf g (textOf s.rest)) s.rest.tail = .ok (lo, hi, r) → textOf r = [123] → d ≠ 40 →
      D (.row true 0) (d + 1) ⟨r.tail, s.made + 1, s.nodes⟩ (.bad c p) → D (.opd g) d s (.bad c p)
  | brEnd {g : Bool} {d : Nat} {s s1 : St} {a lo hi : Int} {r : List Tk} : braceOf g (textOf s.rest) ≠ 0 → s.made ≠ 200 → spanM (braceOf g (textOf s.rest)) s.rest.tail = .ok (lo, hi, r) → textOf r = [123] → d ≠ 40 →
      D (.row true 0) (d + 1) ⟨r.tail, s.made + 1, s.nodes⟩ (.ok s1 a) → textOf s1.rest ≠ [125] → D (.opd g) d s (.bad 2 (posOf s1.rest))
  | br {g : Bool} {d : Nat} {s s1 : St} {a lo hi : Int} {r : List Tk} : braceOf g (textOf s.rest) ≠ 0 → s.made ≠ 200 → spanM (braceOf g (textOf s.rest)) s.rest.tail = .ok (lo, hi, r) → textOf r = [123] → d ≠ 40 →
      D (.row true 0) (d + 1) ⟨r.tail, s.made + 1, s.nodes⟩ (.ok s1 a) → textOf s1.rest = [125] → D (.opd g) d s (.ok ⟨s1.rest.tail, s1.made, s1.nodes ++ [nd1 (braceOf g (textOf s.rest)) lo hi [a]]⟩ (s1.nodes.length : Int))
  | none {g : Bool} {d : Nat} {s : St} : leafOf g (textOf s.rest) = none → textOf s.rest ≠ [40] → braceOf g (textOf s.rest) = 0 → preOf g (textOf s.rest) = 0 → D (.opd g) d s (.bad 2 (posOf s.rest))

end Go.Proofs.Ytbljjmgmdcjocaa.Parse
