/-
  The calls of package deps keep their contract: DepsOk Hd, DepsNil.
-/
import Derived.Test.YthbnbifagenpiaaDpDropP
namespace Go.Proofs.Ythbnbifagenpiaa
open Go.RowKit

theorem okd : DepsOk Hd where
  lt := fun ⟨_, _, _, h⟩ => h.lt
  keep := fun ⟨g, b, e, h⟩ hk hs => ⟨g, b, e, h.keep hk hs⟩
  ok := fun ⟨_, _, _, h⟩ => h.ok
  rng := fun ⟨_, _, _, h⟩ => h.rng
  ptr := fun ⟨_, _, e, _⟩ => ⟨_, e⟩
  new := new12
  add := fun h _ o n ho _ => add12 h o n ho
  settle := fun h _ n _ => settle12 h n
  drop := fun h hl ts _ => drop12 h hl ts
  waits := fun h hl o _ => waits12 h hl o
  all := all12

set_option maxRecDepth 100000 in
theorem nilAdd (o n : Int) (w : World) : Calls Try.prog 21 #[.pointer none, .int .i64 o, .int .i64 n] w fun e w' => e = .returned (.bool false) ∧ Below w.heap.size w w' := by
  have HB := Lib.hid (Below.refl w.heap.size w)
  go_enter Try.func21, Try.ntmps21
  go_wp2
  go_ret
  exact ⟨rfl, HB.out⟩
set_option maxRecDepth 100000 in
theorem nilSettle (n : Int) (w : World) : Calls Try.prog 20 #[.pointer none, .int .i64 n] w fun e w' => e = .returned (.tuple #[]) ∧ Below w.heap.size w w' := by
  have HB := Lib.hid (Below.refl w.heap.size w)
  go_enter Try.func20, Try.ntmps20
  go_wp2
  refine bodyPost_ret (results_none rfl _ _ _) rfl ?_
  exact ⟨rfl, HB.out⟩
set_option maxRecDepth 100000 in
theorem nilDrop (ts : Int) (w : World) : Calls Try.prog 18 #[.pointer none, .int .i64 ts] w fun e w' => (∃ A c, e = .returned (.slice A 0 c)) ∧ Below w.heap.size w w' := by
  have HB := Lib.hid (Below.refl w.heap.size w)
  go_enter Try.func18, Try.ntmps18
  go_wp2
  go_ret
  exact ⟨⟨_, _, rfl⟩, HB.out⟩
set_option maxRecDepth 100000 in
theorem nilWaits (o : Int) (w : World) : Calls Try.prog 15 #[.pointer none, .int .i64 o] w fun e w' => (∃ A c, e = .returned (.slice A 0 c)) ∧ Below w.heap.size w w' := by
  have HB := Lib.hid (Below.refl w.heap.size w)
  go_enter Try.func15, Try.ntmps15
  go_wp2
  go_ret
  exact ⟨⟨_, _, rfl⟩, HB.out⟩
set_option maxRecDepth 100000 in
theorem nilAll (w : World) : Calls Try.prog 14 #[.pointer none] w fun e w' => (∃ A c, e = .returned (.slice A 0 c)) ∧ Below w.heap.size w w' := by
  have HB := Lib.hid (Below.refl w.heap.size w)
  go_enter Try.func14, Try.ntmps14
  go_wp2
  go_ret
  exact ⟨⟨_, _, rfl⟩, HB.out⟩
theorem niln : DepsNil := ⟨nilAdd, nilSettle, nilDrop, nilWaits, nilAll⟩
end Go.Proofs.Ythbnbifagenpiaa
