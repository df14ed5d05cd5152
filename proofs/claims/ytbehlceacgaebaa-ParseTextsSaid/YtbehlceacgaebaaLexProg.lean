/-
  What the landed Lex leaves. By an AI agent.
-/
import Derived.Test.YtbehlceacgaebaaLexLand
namespace Go.Proofs.Ytbehlceacgaebaa.Lex
open Go.RowKit

theorem progLex (s : ByteArray) (w : World) (hs : s.size ≤ maxLen) : Calls Try.prog 14 #[.string s] w (LexGot w (lexS s.data.toList)) :=
  (landLex s w hs).mono fun _ _ h => h.got

end Go.Proofs.Ytbehlceacgaebaa.Lex
