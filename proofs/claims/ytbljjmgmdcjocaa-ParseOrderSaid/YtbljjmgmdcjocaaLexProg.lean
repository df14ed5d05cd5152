/-
  What the landed Lex leaves. By an AI agent.
-/
import Derived.Test.YtbljjmgmdcjocaaLexLand
namespace Go.Proofs.Ytbljjmgmdcjocaa.Lex
open Go.RowKit

theorem progLex (s : ByteArray) (w : World) (hs : s.size ≤ maxLen) : Calls Try.prog 17 #[.string s] w (LexGot w (lexS s.data.toList)) :=
  (landLex s w hs).mono fun _ _ h => h.got

end Go.Proofs.Ytbljjmgmdcjocaa.Lex
