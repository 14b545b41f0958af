/-
  The program's disk does what the document says of each call: of a disk, and of one that is nil.
-/
import Derived.Test.YtbnoocjhlofnoaaVrCopy
import Derived.Test.YtbnoocjhlofnoaaVdEdgesW
namespace Go.Proofs.Ytbnoocjhlofnoaa
open Go.RowKit

theorem ok : DiskOk Hd where
  ptr := fun ⟨p, _, _, e, _⟩ => ⟨⟨p, 0, none⟩, e⟩
  lt := fun ⟨_, _, _, _, h⟩ => h.lt
  keep := fun ⟨p, vs, vr, e, h⟩ hk hs => ⟨p, vs, vr, e, h.keep hk hs⟩
  fit := fun ⟨_, _, _, _, h⟩ => ⟨h.fit, h.n1, h.n2⟩
  row := fun ⟨_, _, _, _, h⟩ => by have := h.r1; omega
  no := new_no
  new := new_any
  write := fun G vb l i h hb hG hr _ _ _ => write_any G vb l i h hb hG hr
  read := fun i h _ _ => read_any i h
  sync := sync_any
  crash := fun G vk keep h hk hG hF => crash_any G vk keep h hk hG hF
  len := fun h => (len_any h).mono (fun _ _ ⟨e, hw⟩ => ⟨e, hw ▸ Below.refl _ _⟩)
  pending := fun h => (pending_any h).mono (fun _ _ ⟨e, hw⟩ => ⟨e, hw ▸ Below.refl _ _⟩)
  copy := copy_any

theorem nilOk : NilOk where
  read := fun i w => (read_no _ i w (has_nil i w)).mono (fun _ _ ⟨e, hw⟩ => ⟨⟨_, e⟩, hw ▸ Below.refl _ _⟩)
  sync := fun w => (sync_nil w).mono (fun _ _ ⟨e, hw⟩ => ⟨e, hw ▸ Below.refl _ _⟩)
  crash := fun w => (crash_nil w).mono (fun _ _ ⟨e, hw⟩ => ⟨e, hw ▸ Below.refl _ _⟩)
  write := fun i w => (write_no _ _ i w (has_nil i w)).mono (fun _ _ ⟨e, hw⟩ => ⟨e, hw ▸ Below.refl _ _⟩)
  len := fun w => (len_nil w).mono (fun _ _ ⟨e, hw⟩ => ⟨e, hw ▸ Below.refl _ _⟩)
  pending := fun w => (pending_nil w).mono (fun _ _ ⟨e, hw⟩ => ⟨e, hw ▸ Below.refl _ _⟩)
  copy := fun w => (copy_nil w).mono (fun _ _ ⟨e, hw⟩ => ⟨e, hw ▸ Below.refl _ _⟩)

end Go.Proofs.Ytbnoocjhlofnoaa
