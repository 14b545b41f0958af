/-
  Walks of layer slot's laws: how many writes a saving is; how many frames so many bytes are.
-/
import Derived.Test.YtbjbnjpdackloaaSoAwake
namespace Go.Proofs.Ytbjbnjpdackloaa
open Go.RowKit

theorem Z.save_row {d : D.Dk} {first size gen : Nat} {b : List UInt8} (h : Z.May d first size) : (Z.save d first size gen b).row.length = d.row.length + R.many b.length :=
  G.put_row (Z.ring_may (gen := gen) h.s1 (h.slot (Nat.mod_lt gen (by decide)))) b
theorem many200 {n : Nat} (h : n ≤ 200) : R.many n ≤ 4 := by unfold R.many; split <;> omega
theorem many201 {n : Nat} (h : 200 < n) : ¬ R.many n ≤ 4 := by unfold R.many; rw [if_neg (by omega)]; omega

end Go.Proofs.Ytbjbnjpdackloaa
