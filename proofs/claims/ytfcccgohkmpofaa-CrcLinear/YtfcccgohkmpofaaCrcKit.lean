/-
  How an argument of bytes is opened.
-/
import Derived.Test.YtfcccgohkmpofaaLawKit
import Derived.Test.YtfcccgohkmpofaaCrcW4
namespace Go.Proofs.Ytfcccgohkmpofaa.law
open Go.ChangeShapes Go.WideShapes Go.ChangeAt Go.RowKit

theorem cells8 : Try.prog.cellsOf 5 = 1 := by kernel_rfl

/-- a slice of bytes that came in: nil, or its cells -/
theorem open_bytes {H : Type} {enc : TypeId × Value → H} {w : World} {base : Nat} {sp : Nat → Bool} {held : Bool} {v : Value} {d : DataW H} {p : List MemPlace}
    (hd : DataW.Trod enc Try.prog w base sp held 22 v d p) (hv : ∃ a n c, v = .slice a n c) : ∃ l : List UInt8, Sl w w.heap.size v l ∧ l.length ≤ maxLen := by
  obtain ⟨a0, n0, c0, rfl⟩ := hv
  obtain ⟨fuel, hf⟩ := hd
  rcases open_ints Try.underlying22 Try.underlying5 cells8 hf with ⟨hcs, _⟩ | ⟨a, len, cap, zs, hcs, _, hl, hm, hz, _, hx, hw⟩
  · simp [Value.cells] at hcs
    obtain ⟨rfl, rfl, rfl⟩ := hcs
    exact ⟨[], Sl.nil _ _ _ _, by simp⟩
  · simp [Value.cells] at hcs
    obtain ⟨rfl, rfl, rfl⟩ := hcs
    have hlz : n0 ≤ zs.length := by rw [hz]; split <;> omega
    have hlen : ((zs.take n0).map fun z => UInt8.ofNat z.toNat).length = n0 := by simp; omega
    refine ⟨(zs.take n0).map fun z => UInt8.ofNat z.toNat, ⟨some a, c0, by rw [hlen], by rw [hlen]; exact hl, fun hne => ⟨a, rfl, ?_, fun j hj => ?_⟩⟩, by rw [hlen]; omega⟩
    · have h0 : 0 < zs.length := by
        rcases Nat.eq_zero_or_pos n0 with e | e
        · subst e; simp at hne
        · omega
      have := World.block_lt_of_cell? w _ (hx 0 h0)
      rwa [add_block] at this
    · rw [hlen] at hj
      rw [hx j (by omega)]
      have hwz := hw zs[j] (List.getElem_mem (by omega))
      have hb : 0 ≤ zs[j] ∧ zs[j] ≤ 255 := by simpa [Lit.wf, IntKind.min, IntKind.max, IntKind.signed, IntKind.bits] using hwz
      have e1 : zs.getD j 0 = zs[j] := by simp [List.getD, show j < zs.length by omega]
      rw [e1]
      congr 2
      simp
      omega

end Go.Proofs.Ytfcccgohkmpofaa.law
