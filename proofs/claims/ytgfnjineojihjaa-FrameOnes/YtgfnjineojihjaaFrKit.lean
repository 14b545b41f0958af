/-
  How the arguments of layer frame's laws are opened: slices of bytes, a frame by value.
-/
import Derived.Test.YtgfnjineojihjaaLawKit
import Derived.Test.YtgfnjineojihjaaFrBackW
import Derived.Test.YtgfnjineojihjaaFrWholeW
import Derived.Deep.Slices
namespace Go.Proofs.Ytgfnjineojihjaa.law
open Go.ChangeShapes Go.WideShapes Go.ChangeAt Go.RowKit Go.Deep

abbrev Low (w : World) : Nat → Prop := fun b => b < w.heap.size

theorem list_of {α : Type} {p : Nat → α → Prop} (n : Nat) (h : ∀ i, i < n → ∃ c, p i c) : ∃ l : List α, l.length = n ∧ ∀ i (hi : i < l.length), p i l[i] := by
  induction n with
  | zero => exact ⟨[], rfl, fun i hi => by simp at hi⟩
  | succ k ih =>
    obtain ⟨l, h1, h2⟩ := ih (fun i hi => h i (by omega))
    obtain ⟨c, hc⟩ := h k (by omega)
    refine ⟨l ++ [c], by simp [h1], fun i hi => ?_⟩
    by_cases hik : i < l.length
    · rw [List.getElem_append_left hik]; exact h2 i hik
    · have : i = k := by simp at hi; omega
      subst this
      rw [List.getElem_append_right (by omega)]
      simpa using hc

section
variable {H : Type} {enc : TypeId × Value → H} {w : World} {base fuel : Nat} {sp : Nat → Bool} {held : Bool} {v : Value} {x : DataW H × List MemPlace}

theorem cell_len {a : Addr} {n : Nat} {cs' : List Value} (h : w.cells? base (a.add n) 1 = some cs') : ∃ u, cs' = [u] ∧ w.cell? (a.add n) = some u := by
  obtain ⟨_, hl, hat⟩ := World.cells?_some h
  match cs', hl with
  | [u], _ =>
    have := hat 0 (by decide)
    exact ⟨u, rfl, by simpa [Addr.add] using this⟩

theorem open_b (h : DataW.trod enc Try.prog w base sp held fuel 23 [v] = some x) : ∃ l : List UInt8, SlB w (Low w) v l ∧ l.length ≤ maxLen := by
  rcases open_slice Try.underlying23 h with ⟨hcs, _⟩ | ⟨a, len, cap, m, n, D, Pl, hcs, _, hl, hm, hmm, _, hx⟩
  · cases hcs
    exact ⟨[], S.Sg.nil .., by simp⟩
  · cases hcs
    have hlm : len ≤ m := by rw [hmm]; split <;> omega
    have hx1 : ∀ i, i < len → ∃ c : UInt8, w.cell? (a.add i) = some (.int .u8 (c.toNat : Int)) := fun i hi => by
      obtain ⟨cs', hc, ht⟩ := hx i (by omega)
      rw [show Try.prog.cellsOf 5 = 1 by kernel_rfl, Nat.mul_one] at hc
      obtain ⟨u, rfl, hu⟩ := cell_len hc
      obtain ⟨z, e, _, hw⟩ := DataW.trod_int Try.underlying5 ht
      cases e
      have hb : 0 ≤ z ∧ z ≤ 255 := by simpa [Lit.wf, IntKind.min, IntKind.max, IntKind.signed, IntKind.bits] using hw
      refine ⟨UInt8.ofNat z.toNat, ?_⟩
      rw [hu]
      congr 2
      simp
      omega
    obtain ⟨l, hll, hle⟩ := list_of len hx1
    subst hll
    refine ⟨l, ⟨by rw [bytesV_length, Nat.mul_one], some a, cap, rfl, hl, fun hne => ⟨a, rfl, ?_, fun j u hj => ?_⟩⟩, by omega⟩
    · have := World.block_lt_of_cell? w _ (hle 0 (by omega))
      rwa [S.add_block] at this
    · have hjl := (List.getElem?_eq_some_iff.1 hj).1
      rw [bytesV_length] at hjl
      rw [hle j hjl, ← hj, bytesV_at l j hjl]

theorem cells_slice (hv : ∃ a n c, v = .slice a n c) : v.cells.toList = [v] := by obtain ⟨a, n, c, rfl⟩ := hv; rfl

theorem open_bytes {d : DataW H} {p : List MemPlace} (hd : DataW.Trod enc Try.prog w base sp held 23 v d p) (hv : ∃ a n c, v = .slice a n c) : ∃ l : List UInt8, SlB w (Low w) v l ∧ l.length ≤ maxLen := by
  obtain ⟨fuel, hf⟩ := hd
  rw [cells_slice hv] at hf
  exact open_b hf

/-- a frame by value -/
theorem open_frame {b0 : Nat} {r : Reach} {d : DataW H} {p : List MemPlace} (hval : Value.okWide Try.prog w r b0 25 v) (hd : DataW.Trod enc Try.prog w base sp held 25 v d p) : ∃ f : R.Fr, FrV w (Low w) v f ∧ f.Num := by
  obtain ⟨cs, rfl, hsz⟩ := okWide_struct Try.underlying25 hval
  obtain ⟨c0, c1, c2, c3, rfl⟩ := Joins.array4 (hsz.trans (show Try.prog.cellsOf 25 = 4 by kernel_rfl))
  obtain ⟨fuel, hf⟩ := hd
  obtain ⟨y0, y1, y2, y3, n, _, _, h0, h1, h2, h3⟩ := Joins.trod_struct4 Try.underlying25 hf
  have h0 : DataW.trod enc Try.prog w base sp held n 22 [c0] = some y0 := h0
  have h1 : DataW.trod enc Try.prog w base sp held n 22 [c1] = some y1 := h1
  have h2 : DataW.trod enc Try.prog w base sp held n 5 [c2] = some y2 := h2
  have h3 : DataW.trod enc Try.prog w base sp held n 23 [c3] = some y3 := h3
  obtain ⟨e, e0, _, b0⟩ := DataW.trod_int Try.underlying22 h0
  obtain ⟨s, e1, _, b1⟩ := DataW.trod_int Try.underlying22 h1
  obtain ⟨c, e2, _, b2⟩ := DataW.trod_int Try.underlying5 h2
  cases e0; cases e1; cases e2
  have b0 : 0 ≤ e ∧ e ≤ 4294967295 := by simpa [Lit.wf, IntKind.min, IntKind.max, IntKind.signed, IntKind.bits] using b0
  have b1 : 0 ≤ s ∧ s ≤ 4294967295 := by simpa [Lit.wf, IntKind.min, IntKind.max, IntKind.signed, IntKind.bits] using b1
  have b2 : 0 ≤ c ∧ c ≤ 255 := by simpa [Lit.wf, IntKind.min, IntKind.max, IntKind.signed, IntKind.bits] using b2
  obtain ⟨l, hl, _⟩ := open_b h3
  obtain ⟨e', rfl⟩ := Int.eq_ofNat_of_zero_le b0.1
  obtain ⟨s', rfl⟩ := Int.eq_ofNat_of_zero_le b1.1
  obtain ⟨c', rfl⟩ := Int.eq_ofNat_of_zero_le b2.1
  have hc : (UInt8.ofNat c').toNat = c' := by simp; omega
  exact ⟨⟨e', s', UInt8.ofNat c', l⟩, ⟨c3, by rw [hc], hl⟩, ⟨by show e' < _; omega, by show s' < _; omega⟩⟩
end

end Go.Proofs.Ytgfnjineojihjaa.law
