/-
  The library's generic functions of which this program has instances are the ones that the library's contracts speak of (numbers held against each other, bodies compared by the kernel).
-/
import Derived.Shelf.SlGeneric
import Derived.Shelf.SlicesG.SearchI
import Derived.Ground.SlgnProg
import Derived.Test.YthbnbifagenpiaaRows
namespace Go.Proofs.Ythbnbifagenpiaa
open Go.Shelf
def searchA_ren : Go.Shelf.Ren := ⟨fun | 49 => 37 | 59 => 41 | 60 => 42 | 68 => 53 | n => n, fun | 22 => 31 | 23 => 2 | 3 => 3 | 4 => 4 | 51 => 69 | 0 => 0 | n => n, fun | n => n⟩
theorem searchA : Go.Proofs.SlLaysN.n49 Try.prog searchA_ren := {
  mixed := by kernel_rfl
  f49 := ⟨Try.f37.name, by decide, Try.func37.trans (congrArg some (by kernel_rfl))⟩
  f59 := ⟨Try.f41.name, by decide, Try.func41.trans (congrArg some (by kernel_rfl))⟩
  f60 := ⟨Try.f42.name, by decide, Try.func42.trans (congrArg some (by kernel_rfl))⟩
  f68 := ⟨Try.f53.name, by decide, Try.func53.trans (congrArg some (by kernel_rfl))⟩
  t0 := Try.underlying0
  a0 := Try.isAgg0
  z0 := Try.sizeOf0
  v0 := Try.zeroValue0
  t3 := Try.underlying3
  a3 := Try.isAgg3
  z3 := Try.sizeOf3
  v3 := Try.zeroValue3
  t4 := Try.underlying4
  a4 := Try.isAgg4
  z4 := Try.sizeOf4
  v4 := Try.zeroValue4
  t22 := Try.underlying31
  a22 := Try.isAgg31
  z22 := Try.sizeOf31
  v22 := Try.zeroValue31
  t23 := Try.underlying2
  a23 := Try.isAgg2
  z23 := Try.sizeOf2
  v23 := Try.zeroValue2
  t51 := Try.underlying69
  a51 := Try.isAgg69
  z51 := Try.sizeOf69
  v51 := Try.zeroValue69 }
end Go.Proofs.Ythbnbifagenpiaa
