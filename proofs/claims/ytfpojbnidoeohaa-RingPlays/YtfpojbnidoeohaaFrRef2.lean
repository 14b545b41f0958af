/-
  Walks of the document's frames: the frame of a sector.
-/
import Derived.Test.YtfpojbnidoeohaaFrRef1
namespace Go.Proofs.Ytfpojbnidoeohaa
open Go.RowKit

def fr0 : R.Fr := ⟨0, 0, 0, []⟩
abbrev fr0C : List Value := [.int .u32 0, .int .u32 0, .int .u8 0, .string ⟨#[]⟩]

/-- what Parse tells -/
def psV (l : List UInt8) : Value := match R.parse l with
  | some f => .tuple #[frA f, .int .i64 0]
  | none => .tuple #[.agg #[.int .u32 0, .int .u32 0, .int .u8 0, .string ⟨#[]⟩], .int .i64 2]

theorem undRf : ∃ fs, Try.prog.underlying 102 = some (.struct fs) := ⟨_, Try.underlying102⟩
theorem infoRf : (Try.prog.info? 102).map (·.size) = some 4 := by kernel_rfl

theorem getD_byte (s : ByteArray) (k : Nat) (h : k < s.size) : s.data.toList.getD k 0 = s[k] := by
  rw [List.getD_eq_getElem?_getD, List.getElem?_eq_getElem (by simpa using h)]
  simp [ByteArray.getElem_eq_getElem_data]

abbrev zeroRf : Value := .tuple #[.agg #[.int .u32 0, .int .u32 0, .int .u8 0, .string ⟨#[]⟩], .int .i64 2]

end Go.Proofs.Ytfpojbnidoeohaa
