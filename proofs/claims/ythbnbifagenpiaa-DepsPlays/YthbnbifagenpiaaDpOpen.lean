/-
  How the arguments of layer deps' laws are opened: slices of deeds.
-/
import Derived.Test.YthbnbifagenpiaaLawKit
import Derived.Test.YthbnbifagenpiaaDpLaw1
import Derived.Deep.Slices
import Derived.Deep.Strs
import Derived.SizedLaws
namespace Go.Proofs.Ythbnbifagenpiaa.law
open Go.ChangeShapes Go.WideShapes Go.ChangeAt Go.RowKit Go.Deep

abbrev Low (w : World) : Nat → Prop := fun b => b < w.heap.size

theorem list_of {α : Type} {p : Nat → α → Prop} (n : Nat) (h : ∀ i, i < n → ∃ c, p i c) : ∃ l : List α, l.length = n ∧ ∀ i (hi : i < l.length), p i l[i] := by
  induction n with
  | zero => exact ⟨[], rfl, fun i hi => by simp at hi⟩
  | succ k ih =>
    obtain ⟨l, h1, h2⟩ := ih (fun i hi => h i (by omega))
    obtain ⟨c, hc⟩ := h k (by omega)
    refine ⟨l ++ [c], by simp [h1], fun i hi => ?_⟩
    by_cases hik : i < l.length
    · rw [List.getElem_append_left hik]; exact h2 i hik
    · have : i = k := by simp at hi; omega
      subst this
      rw [List.getElem_append_right (by omega)]
      simpa using hc

section
variable {H : Type} {enc : TypeId × Value → H} {w : World} {base fuel : Nat} {sp : Nat → Bool} {held : Bool} {v : Value} {x : DataW H × List MemPlace}

theorem cell_len {a : Addr} {n : Nat} {cs' : List Value} (h : w.cells? base (a.add n) 1 = some cs') : ∃ u, cs' = [u] ∧ w.cell? (a.add n) = some u := by
  obtain ⟨_, hl, hat⟩ := World.cells?_some h
  match cs', hl with
  | [u], _ =>
    have := hat 0 (by decide)
    exact ⟨u, rfl, by simpa [Addr.add] using this⟩

theorem cells_slice (hv : ∃ a n c, v = .slice a n c) : v.cells.toList = [v] := by obtain ⟨a, n, c, rfl⟩ := hv; rfl

set_option maxRecDepth 100000 in
/-- a deed's three cells -/
theorem open_deed12 {c0 c1 c2 : Value} (h : DataW.trod enc Try.prog w base sp held fuel 30 [c0, c1, c2] = some x) : ∃ X : Dd12, X.Ok ∧ c0 = .int .i64 X.kind ∧ c1 = .int .i64 X.a ∧ c2 = .int .i64 X.b := by
  obtain ⟨y0, y1, y2, n, _, _, h0, h1, h2⟩ := trod_struct3 Try.underlying30 h
  have h0 : DataW.trod enc Try.prog w base sp held n 3 [c0] = some y0 := h0
  have h1 : DataW.trod enc Try.prog w base sp held n 2 [c1] = some y1 := h1
  have h2 : DataW.trod enc Try.prog w base sp held n 2 [c2] = some y2 := h2
  obtain ⟨k, e0, _, b0⟩ := DataW.trod_int Try.underlying3 h0
  obtain ⟨i, e1, _, b1⟩ := DataW.trod_int Try.underlying2 h1
  obtain ⟨j, e2, _, b2⟩ := DataW.trod_int Try.underlying2 h2
  cases e0; cases e1; cases e2
  have b0 : -9223372036854775808 ≤ k ∧ k ≤ 9223372036854775807 := by simpa [Lit.wf, IntKind.min, IntKind.max, IntKind.signed, IntKind.bits] using b0
  have b1 : -9223372036854775808 ≤ i ∧ i ≤ 9223372036854775807 := by simpa [Lit.wf, IntKind.min, IntKind.max, IntKind.signed, IntKind.bits] using b1
  have b2 : -9223372036854775808 ≤ j ∧ j ≤ 9223372036854775807 := by simpa [Lit.wf, IntKind.min, IntKind.max, IntKind.signed, IntKind.bits] using b2
  exact ⟨⟨k, i, j⟩, ⟨⟨b0.1, b0.2⟩, ⟨b1.1, b1.2⟩, ⟨b2.1, b2.2⟩⟩, rfl, rfl, rfl⟩

theorem cells_three {a : Addr} {cs' : List Value} (h : w.cells? base a 3 = some cs') : ∃ c0 c1 c2, cs' = [c0, c1, c2] ∧ w.cell? (a.add 0) = some c0 ∧ w.cell? (a.add 1) = some c1 ∧ w.cell? (a.add 2) = some c2 := by
  obtain ⟨_, hl, hat⟩ := World.cells?_some h
  match cs', hl with
  | [c0, c1, c2], _ => exact ⟨c0, c1, c2, rfl, hat 0 (by decide), hat 1 (by decide), hat 2 (by decide)⟩

theorem open_dds12 (h : DataW.trod enc Try.prog w base sp held fuel 22 [v] = some x) : ∃ l : List Dd12, Dds12 w (Low w) v l ∧ l.length ≤ maxLen := by
  rcases open_slice Try.underlying22 h with ⟨hcs, _⟩ | ⟨a, len, cap, m, n, D, Pl, hcs, _, hl, hm, hmm, _, hx⟩
  · cases hcs
    exact ⟨[], ⟨none, 0, rfl, Nat.zero_le _, fun x hx => by simp at hx, fun h => absurd rfl h⟩, by simp⟩
  · cases hcs
    have hlm : len ≤ m := by rw [hmm]; split <;> omega
    have hx1 : ∀ i, i < len → ∃ X : Dd12, X.Ok ∧ w.cell? (a.add (i * 3)) = some (.int .i64 X.kind) ∧ w.cell? (a.add (i * 3 + 1)) = some (.int .i64 X.a) ∧ w.cell? (a.add (i * 3 + 2)) = some (.int .i64 X.b) := fun i hi => by
      obtain ⟨cs', hc, ht⟩ := hx i (by omega)
      rw [show Try.prog.cellsOf 30 = 3 by kernel_rfl] at hc
      obtain ⟨c0, c1, c2, rfl, g0, g1, g2⟩ := cells_three hc
      rw [S.add_add] at g0 g1 g2
      obtain ⟨X, hX, e0, e1, e2⟩ := open_deed12 ht
      exact ⟨X, hX, e0 ▸ g0, e1 ▸ g1, e2 ▸ g2⟩
    obtain ⟨l, hll, hle⟩ := list_of len hx1
    subst hll
    refine ⟨l, ⟨some a, cap, rfl, hl, fun x hx => ?_, fun hne => ⟨a, rfl, ?_, fun i hi => (hle i hi).2⟩⟩, by omega⟩
    · obtain ⟨i, hi, rfl⟩ := List.getElem_of_mem hx
      exact (hle i hi).1
    · have h0 : 0 < l.length := List.length_pos_iff.2 hne
      obtain ⟨_, g0, _⟩ := hle 0 h0
      have := World.block_lt_of_cell? w _ g0
      rwa [S.add_block] at this

theorem dds_of {d : DataW H} {p : List MemPlace} (hd : DataW.Trod enc Try.prog w base sp held 22 v d p) (hv : ∃ a n c, v = .slice a n c) : ∃ l : List Dd12, Dds12 w (Low w) v l ∧ l.length ≤ maxLen := by
  obtain ⟨fuel, hf⟩ := hd
  rw [cells_slice hv] at hf
  exact open_dds12 hf
end

end Go.Proofs.Ythbnbifagenpiaa.law
