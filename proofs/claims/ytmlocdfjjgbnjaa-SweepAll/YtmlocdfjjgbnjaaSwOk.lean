/-
  The calls of package sweep, all together (SweepOk Hc).
-/
import Derived.Test.YtmlocdfjjgbnjaaSwP3
import Derived.Test.YtmlocdfjjgbnjaaSwP4
import Derived.Test.YtmlocdfjjgbnjaaClOk
namespace Go.Proofs.Ytmlocdfjjgbnjaa
open Go.RowKit

theorem wid13 : Wid Hc := ⟨fun ⟨g, b, e, h⟩ hF hG => ⟨g, b, e, h.wider hF hG⟩⟩
theorem okp : PruneOk := ⟨fun h hF hl _ ha hG hal _ => prune13 ok10 h hF hl ha hG hal⟩
theorem okw : SweepOk Hc where
  needed := fun h hF hl _ ha hG hal _ => needed13 ok10 h hF hl ha hG hal
  prune := fun h hF hl _ ha hG hal _ => prune13 ok10 h hF hl ha hG hal
  sweep := fun h hf hrx ha hal hra k batch b0 b1 => sweep13 okc okp wid13 h hf hrx ha hal hra k batch b0 b1
end Go.Proofs.Ytmlocdfjjgbnjaa
