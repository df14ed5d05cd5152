/-
  What the landed Lex leaves. By an AI agent.
-/
import Derived.Test.YthadjopkfglecaaDoorLexLand
namespace Go.Proofs.YthadjopkfglecaaDoor.Lex
open Go.RowKit

theorem progLex (s : ByteArray) (w : World) (hs : s.size ≤ maxLen) : Calls Tryd.prog 5 #[.string s] w (LexGot w (lexS s.data.toList)) :=
  (landLex s w hs).mono fun _ _ h => h.got

end Go.Proofs.YthadjopkfglecaaDoor.Lex
