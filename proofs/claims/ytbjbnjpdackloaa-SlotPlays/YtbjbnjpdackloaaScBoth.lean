/-
  The program's frames, and its disk, do what the document says of each call (also a crash).
-/
import Derived.Test.YtbjbnjpdackloaaJF
import Derived.Test.YtbjbnjpdackloaaVrNew
import Derived.Test.YtbjbnjpdackloaaVrRead
import Derived.Test.YtbjbnjpdackloaaVrSync
import Derived.Test.YtbjbnjpdackloaaVrCopy
import Derived.Test.YtbjbnjpdackloaaVrCrash
namespace Go.Proofs.Ytbjbnjpdackloaa
open Go.RowKit

theorem okF : FrameOk where
  pack := fun h hF hn hl => ppack_any h hF hn hl
  parse := fun h hF hl => pparse_any h hF hl
  cut := fun e s h hF he hs hl => cut_any e s h hF he hs hl

theorem okD : DiskOk Hd where
  ptr := fun ⟨p, _, _, e, _⟩ => ⟨⟨p, 0, none⟩, e⟩
  lt := fun ⟨_, _, _, _, h⟩ => h.lt
  keep := fun ⟨p, vs, vr, e, h⟩ hk hs => ⟨p, vs, vr, e, h.keep hk hs⟩
  fit := fun ⟨_, _, _, _, h⟩ => ⟨h.fit, h.n1, h.n2⟩
  row := fun ⟨_, _, _, _, h⟩ => by have := h.r1; omega
  no := new_no
  new := new_any
  write := fun G vb l i h hb hG hr _ _ _ => write_any G vb l i h hb hG hr
  read := fun i h _ _ => read_any i h
  sync := sync_any
  crash := fun G vk keep h hk hG hF => crash_any G vk keep h hk hG hF
  len := fun h => (len_any h).mono (fun _ _ ⟨e, hw⟩ => ⟨e, hw ▸ Below.refl _ _⟩)
  pending := fun h => (pending_any h).mono (fun _ _ ⟨e, hw⟩ => ⟨e, hw ▸ Below.refl _ _⟩)
  copy := copy_any

end Go.Proofs.Ytbjbnjpdackloaa
