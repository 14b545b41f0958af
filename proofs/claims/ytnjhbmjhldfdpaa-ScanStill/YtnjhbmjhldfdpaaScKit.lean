/-
  How the arguments of layer scan's laws are opened: slices of bytes, of deeds, of bools, of slices of bytes; a place by value.
-/
import Derived.Test.YtnjhbmjhldfdpaaLawKit
import Derived.Test.YtnjhbmjhldfdpaaScBss
import Derived.Deep.Slices
import Derived.Deep.Strs
namespace Go.Proofs.Ytnjhbmjhldfdpaa.law
open Go.ChangeShapes Go.WideShapes Go.ChangeAt Go.RowKit Go.Deep

abbrev Low (w : World) : Nat → Prop := fun b => b < w.heap.size

theorem list_of {α : Type} {p : Nat → α → Prop} (n : Nat) (h : ∀ i, i < n → ∃ c, p i c) : ∃ l : List α, l.length = n ∧ ∀ i (hi : i < l.length), p i l[i] := by
  induction n with
  | zero => exact ⟨[], rfl, fun i hi => by simp at hi⟩
  | succ k ih =>
    obtain ⟨l, h1, h2⟩ := ih (fun i hi => h i (by omega))
    obtain ⟨c, hc⟩ := h k (by omega)
    refine ⟨l ++ [c], by simp [h1], fun i hi => ?_⟩
    by_cases hik : i < l.length
    · rw [List.getElem_append_left hik]; exact h2 i hik
    · have : i = k := by simp at hi; omega
      subst this
      rw [List.getElem_append_right (by omega)]
      simpa using hc

section
variable {H : Type} {enc : TypeId × Value → H} {w : World} {base fuel : Nat} {sp : Nat → Bool} {held : Bool} {v : Value} {x : DataW H × List MemPlace}

theorem cell_len {a : Addr} {n : Nat} {cs' : List Value} (h : w.cells? base (a.add n) 1 = some cs') : ∃ u, cs' = [u] ∧ w.cell? (a.add n) = some u := by
  obtain ⟨_, hl, hat⟩ := World.cells?_some h
  match cs', hl with
  | [u], _ =>
    have := hat 0 (by decide)
    exact ⟨u, rfl, by simpa [Addr.add] using this⟩

theorem open_b (h : DataW.trod enc Try.prog w base sp held fuel 36 [v] = some x) : ∃ l : List UInt8, SlB w (Low w) v l ∧ l.length ≤ maxLen := by
  rcases open_slice Try.underlying36 h with ⟨hcs, _⟩ | ⟨a, len, cap, m, n, D, Pl, hcs, _, hl, hm, hmm, _, hx⟩
  · cases hcs
    exact ⟨[], S.Sg.nil .., by simp⟩
  · cases hcs
    have hlm : len ≤ m := by rw [hmm]; split <;> omega
    have hx1 : ∀ i, i < len → ∃ c : UInt8, w.cell? (a.add i) = some (.int .u8 (c.toNat : Int)) := fun i hi => by
      obtain ⟨cs', hc, ht⟩ := hx i (by omega)
      rw [show Try.prog.cellsOf 5 = 1 by kernel_rfl, Nat.mul_one] at hc
      obtain ⟨u, rfl, hu⟩ := cell_len hc
      obtain ⟨z, e, _, hw⟩ := DataW.trod_int Try.underlying5 ht
      cases e
      have hb : 0 ≤ z ∧ z ≤ 255 := by simpa [Lit.wf, IntKind.min, IntKind.max, IntKind.signed, IntKind.bits] using hw
      refine ⟨UInt8.ofNat z.toNat, ?_⟩
      rw [hu]
      congr 2
      simp
      omega
    obtain ⟨l, hll, hle⟩ := list_of len hx1
    subst hll
    refine ⟨l, ⟨by rw [bytesV_length, Nat.mul_one], some a, cap, rfl, hl, fun hne => ⟨a, rfl, ?_, fun j u hj => ?_⟩⟩, by omega⟩
    · have := World.block_lt_of_cell? w _ (hle 0 (by omega))
      rwa [S.add_block] at this
    · have hjl := (List.getElem?_eq_some_iff.1 hj).1
      rw [bytesV_length] at hjl
      rw [hle j hjl, ← hj, bytesV_at l j hjl]

theorem cells_slice (hv : ∃ a n c, v = .slice a n c) : v.cells.toList = [v] := by obtain ⟨a, n, c, rfl⟩ := hv; rfl

theorem open_bytes {d : DataW H} {p : List MemPlace} (hd : DataW.Trod enc Try.prog w base sp held 36 v d p) (hv : ∃ a n c, v = .slice a n c) : ∃ l : List UInt8, SlB w (Low w) v l ∧ l.length ≤ maxLen := by
  obtain ⟨fuel, hf⟩ := hd
  rw [cells_slice hv] at hf
  exact open_b hf

set_option maxRecDepth 100000 in
/-- a deed's three cells -/
theorem open_deed3 {c0 c1 c2 : Value} (h : DataW.trod enc Try.prog w base sp held fuel 101 [c0, c1, c2] = some x) : ∃ X : Dd, X.Ok ∧ DdV w (Low w) c0 c1 c2 X := by
  obtain ⟨y0, y1, y2, n, _, _, h0, h1, h2⟩ := Go.Deep.trod_struct3 Try.underlying101 h
  have h0 : DataW.trod enc Try.prog w base sp held n 3 [c0] = some y0 := h0
  have h1 : DataW.trod enc Try.prog w base sp held n 36 [c1] = some y1 := h1
  have h2 : DataW.trod enc Try.prog w base sp held n 5 [c2] = some y2 := h2
  obtain ⟨k, e0, _, b0⟩ := DataW.trod_int Try.underlying3 h0
  obtain ⟨i, e2, _, b2⟩ := DataW.trod_int Try.underlying5 h2
  cases e0; cases e2
  have b0 : -9223372036854775808 ≤ k ∧ k ≤ 9223372036854775807 := by simpa [Lit.wf, IntKind.min, IntKind.max, IntKind.signed, IntKind.bits] using b0
  have b2 : 0 ≤ i ∧ i ≤ 255 := by simpa [Lit.wf, IntKind.min, IntKind.max, IntKind.signed, IntKind.bits] using b2
  obtain ⟨l, hl, hll⟩ := open_b h1
  obtain ⟨n', rfl⟩ := Int.eq_ofNat_of_zero_le b2.1
  unfold maxLen at hll
  exact ⟨⟨k, l, n'⟩, ⟨b0.1, b0.2, by show n' < 256; omega, by show l.length ≤ _; omega⟩, rfl, hl, rfl⟩

theorem cells_three {a : Addr} {cs' : List Value} (h : w.cells? base a 3 = some cs') : ∃ c0 c1 c2, cs' = [c0, c1, c2] ∧ w.cell? (a.add 0) = some c0 ∧ w.cell? (a.add 1) = some c1 ∧ w.cell? (a.add 2) = some c2 := by
  obtain ⟨_, hl, hat⟩ := World.cells?_some h
  match cs', hl with
  | [c0, c1, c2], _ => exact ⟨c0, c1, c2, rfl, hat 0 (by decide), hat 1 (by decide), hat 2 (by decide)⟩

theorem open_dds (h : DataW.trod enc Try.prog w base sp held fuel 50 [v] = some x) : ∃ l : List Dd, Dds w (Low w) v l ∧ l.length ≤ maxLen := by
  rcases open_slice Try.underlying50 h with ⟨hcs, _⟩ | ⟨a, len, cap, m, n, D, Pl, hcs, _, hl, hm, hmm, _, hx⟩
  · cases hcs
    exact ⟨[], ⟨none, 0, rfl, Nat.zero_le _, fun x hx => by simp at hx, fun h => absurd rfl h⟩, by simp⟩
  · cases hcs
    have hlm : len ≤ m := by rw [hmm]; split <;> omega
    have hx1 : ∀ i, i < len → ∃ X : Dd, X.Ok ∧ ∃ c0 c1 c2, w.cell? (a.add (i * 3)) = some c0 ∧ w.cell? (a.add (i * 3 + 1)) = some c1 ∧ w.cell? (a.add (i * 3 + 2)) = some c2 ∧ DdV w (Low w) c0 c1 c2 X := fun i hi => by
      obtain ⟨cs', hc, ht⟩ := hx i (by omega)
      rw [show Try.prog.cellsOf 101 = 3 by kernel_rfl] at hc
      obtain ⟨c0, c1, c2, rfl, g0, g1, g2⟩ := cells_three hc
      rw [S.add_add] at g0 g1 g2
      obtain ⟨X, hX, hV⟩ := open_deed3 ht
      exact ⟨X, hX, c0, c1, c2, g0, g1, g2, hV⟩
    obtain ⟨l, hll, hle⟩ := list_of len hx1
    subst hll
    refine ⟨l, ⟨some a, cap, rfl, hl, fun x hx => ?_, fun hne => ⟨a, rfl, ?_, fun i hi => (hle i hi).2⟩⟩, by omega⟩
    · obtain ⟨i, hi, rfl⟩ := List.getElem_of_mem hx
      exact (hle i hi).1
    · have h0 : 0 < l.length := List.length_pos_iff.2 hne
      obtain ⟨_, c0, _, _, g0, _⟩ := hle 0 h0
      have := World.block_lt_of_cell? w _ g0
      rwa [S.add_block] at this

theorem dds_of {d : DataW H} {p : List MemPlace} (hd : DataW.Trod enc Try.prog w base sp held 50 v d p) (hv : ∃ a n c, v = .slice a n c) : ∃ l : List Dd, Dds w (Low w) v l ∧ l.length ≤ maxLen := by
  obtain ⟨fuel, hf⟩ := hd
  rw [cells_slice hv] at hf
  exact open_dds hf

theorem array3 {T : Array Value} (h : T.size = 3) : ∃ a b c, T = #[a, b, c] := by
  obtain ⟨l⟩ := T
  match l, h with
  | [a, b, c], _ => exact ⟨a, b, c, rfl⟩

set_option maxRecDepth 100000 in
/-- a place by value -/
theorem open_place {b0 : Nat} {r : Reach} {d : DataW H} {p : List MemPlace} (hval : Value.okWide Try.prog w r b0 25 v) (hd : DataW.Trod enc Try.prog w base sp held 25 v d p) :
    ∃ (first many : Int) (epoch : Nat), v = .agg #[.int .i64 first, .int .i64 many, .int .u32 (epoch : Int)] ∧ (-9223372036854775808 ≤ first ∧ first ≤ 9223372036854775807) ∧ (-9223372036854775808 ≤ many ∧ many ≤ 9223372036854775807) ∧ epoch < 4294967296 := by
  obtain ⟨cs, rfl, hsz⟩ := okWide_struct Try.underlying25 hval
  obtain ⟨c0, c1, c2, rfl⟩ := array3 (hsz.trans (show Try.prog.cellsOf 25 = 3 by kernel_rfl))
  obtain ⟨fuel, hf⟩ := hd
  obtain ⟨z0, z1, z2, m, _, _, g0, g1, g2⟩ := Go.Deep.trod_struct3 Try.underlying25 hf
  have g0 : DataW.trod enc Try.prog w base sp held m 3 [c0] = some z0 := g0
  have g1 : DataW.trod enc Try.prog w base sp held m 3 [c1] = some z1 := g1
  have g2 : DataW.trod enc Try.prog w base sp held m 23 [c2] = some z2 := g2
  obtain ⟨f, e0, _, b0⟩ := DataW.trod_int Try.underlying3 g0
  obtain ⟨k, e1, _, b1⟩ := DataW.trod_int Try.underlying3 g1
  obtain ⟨e, e2, _, b2⟩ := DataW.trod_int Try.underlying23 g2
  cases e0; cases e1; cases e2
  have b0 : -9223372036854775808 ≤ f ∧ f ≤ 9223372036854775807 := by simpa [Lit.wf, IntKind.min, IntKind.max, IntKind.signed, IntKind.bits] using b0
  have b1 : -9223372036854775808 ≤ k ∧ k ≤ 9223372036854775807 := by simpa [Lit.wf, IntKind.min, IntKind.max, IntKind.signed, IntKind.bits] using b1
  have b2 : 0 ≤ e ∧ e ≤ 4294967295 := by simpa [Lit.wf, IntKind.min, IntKind.max, IntKind.signed, IntKind.bits] using b2
  obtain ⟨e', rfl⟩ := Int.eq_ofNat_of_zero_le b2.1
  exact ⟨f, k, e', rfl, b0, b1, by omega⟩

theorem open_bss (h : DataW.trod enc Try.prog w base sp held fuel 22 [v] = some x) : ∃ l : List (List UInt8), Bss w (Low w) v l ∧ l.length ≤ maxLen := by
  rcases open_slice Try.underlying22 h with ⟨hcs, _⟩ | ⟨a, len, cap, m, n, D, Pl, hcs, _, hl, hm, hmm, _, hx⟩
  · cases hcs
    exact ⟨[], ⟨none, 0, rfl, Nat.zero_le _, fun x hx => by simp at hx, fun h => absurd rfl h⟩, by simp⟩
  · cases hcs
    have hlm : len ≤ m := by rw [hmm]; split <;> omega
    have hx1 : ∀ i, i < len → ∃ b : List UInt8, b.length ≤ 9223372036854775807 ∧ ∃ vb, w.cell? (a.add i) = some vb ∧ SlB w (Low w) vb b := fun i hi => by
      obtain ⟨cs', hc, ht⟩ := hx i (by omega)
      rw [show Try.prog.cellsOf 36 = 1 by kernel_rfl, Nat.mul_one] at hc
      obtain ⟨u, rfl, hu⟩ := cell_len hc
      obtain ⟨b, hb, hbl⟩ := open_b ht
      unfold maxLen at hbl
      exact ⟨b, by omega, u, hu, hb⟩
    obtain ⟨l, hll, hle⟩ := list_of len hx1
    subst hll
    refine ⟨l, ⟨some a, cap, rfl, hl, fun x hx => ?_, fun hne => ⟨a, rfl, ?_, fun i hi => (hle i hi).2⟩⟩, by omega⟩
    · obtain ⟨i, hi, rfl⟩ := List.getElem_of_mem hx
      exact (hle i hi).1
    · have h0 : 0 < l.length := List.length_pos_iff.2 hne
      obtain ⟨_, vb, g0, _⟩ := hle 0 h0
      have := World.block_lt_of_cell? w _ g0
      rwa [S.add_block] at this

theorem bss_of {d : DataW H} {p : List MemPlace} (hd : DataW.Trod enc Try.prog w base sp held 22 v d p) (hv : ∃ a n c, v = .slice a n c) : ∃ l : List (List UInt8), Bss w (Low w) v l ∧ l.length ≤ maxLen := by
  obtain ⟨fuel, hf⟩ := hd
  rw [cells_slice hv] at hf
  exact open_bss hf

theorem open_t (h : DataW.trod enc Try.prog w base sp held fuel 60 [v] = some x) : ∃ l : List Bool, SlT w (Low w) v l ∧ l.length ≤ maxLen := by
  rcases open_slice Try.underlying60 h with ⟨hcs, _⟩ | ⟨a, len, cap, m, n, D, Pl, hcs, _, hl, hm, hmm, _, hx⟩
  · cases hcs
    exact ⟨[], S.Sg.nil .., by simp⟩
  · cases hcs
    have hlm : len ≤ m := by rw [hmm]; split <;> omega
    have hx1 : ∀ i, i < len → ∃ c : Bool, w.cell? (a.add i) = some (.bool c) := fun i hi => by
      obtain ⟨cs', hc, ht⟩ := hx i (by omega)
      rw [show Try.prog.cellsOf 4 = 1 by kernel_rfl, Nat.mul_one] at hc
      obtain ⟨u, rfl, hu⟩ := cell_len hc
      obtain ⟨z, e, _⟩ := DataW.trod_bool Try.underlying4 ht
      cases e
      exact ⟨z, hu⟩
    obtain ⟨l, hll, hle⟩ := list_of len hx1
    subst hll
    refine ⟨l, ⟨by rw [boolV_length, Nat.mul_one], some a, cap, rfl, hl, fun hne => ⟨a, rfl, ?_, fun j u hj => ?_⟩⟩, by omega⟩
    · have := World.block_lt_of_cell? w _ (hle 0 (by omega))
      rwa [S.add_block] at this
    · have hjl := (List.getElem?_eq_some_iff.1 hj).1
      rw [boolV_length] at hjl
      rw [hle j hjl, ← hj, boolV_at l j hjl]

theorem bools_of {d : DataW H} {p : List MemPlace} (hd : DataW.Trod enc Try.prog w base sp held 60 v d p) (hv : ∃ a n c, v = .slice a n c) : ∃ l : List Bool, SlT w (Low w) v l ∧ l.length ≤ maxLen := by
  obtain ⟨fuel, hf⟩ := hd
  rw [cells_slice hv] at hf
  exact open_t hf
end

end Go.Proofs.Ytnjhbmjhldfdpaa.law
