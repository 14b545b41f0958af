/-
  The program's frames do what the document says: the three calls' contracts.
-/
import Derived.Test.YtfpojbnidoeohaaFpParse
import Derived.Test.YtfpojbnidoeohaaFpCut
namespace Go.Proofs.Ytfpojbnidoeohaa
open Go.RowKit

theorem okF : FrameOk where
  pack := fun h hF hn hl => ppack_any h hF hn hl
  parse := fun h hF hl => pparse_any h hF hl
  cut := fun e s h hF he hs hl => cut_any e s h hF he hs hl

end Go.Proofs.Ytfpojbnidoeohaa
