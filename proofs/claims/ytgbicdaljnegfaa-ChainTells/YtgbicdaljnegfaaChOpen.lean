/-
  How the arguments of layer chain's laws are opened: slices of versions, of deeds; a deed by value.
-/
import Derived.Test.YtgbicdaljnegfaaLawKit
import Derived.Test.YtgbicdaljnegfaaChDds
import Derived.Test.YtgbicdaljnegfaaChRef
import Derived.Deep.Slices
import Derived.Deep.Strs
import Derived.SizedLaws
namespace Go.Proofs.Ytgbicdaljnegfaa.law
open Go.ChangeShapes Go.WideShapes Go.ChangeAt Go.RowKit Go.Deep

abbrev Low (w : World) : Nat → Prop := fun b => b < w.heap.size

theorem list_of {α : Type} {p : Nat → α → Prop} (n : Nat) (h : ∀ i, i < n → ∃ c, p i c) : ∃ l : List α, l.length = n ∧ ∀ i (hi : i < l.length), p i l[i] := by
  induction n with
  | zero => exact ⟨[], rfl, fun i hi => by simp at hi⟩
  | succ k ih =>
    obtain ⟨l, h1, h2⟩ := ih (fun i hi => h i (by omega))
    obtain ⟨c, hc⟩ := h k (by omega)
    refine ⟨l ++ [c], by simp [h1], fun i hi => ?_⟩
    by_cases hik : i < l.length
    · rw [List.getElem_append_left hik]; exact h2 i hik
    · have : i = k := by simp at hi; omega
      subst this
      rw [List.getElem_append_right (by omega)]
      simpa using hc

section
variable {H : Type} {enc : TypeId × Value → H} {w : World} {base fuel : Nat} {sp : Nat → Bool} {held : Bool} {v : Value} {x : DataW H × List MemPlace}

theorem cells_slice (hv : ∃ a n c, v = .slice a n c) : v.cells.toList = [v] := by obtain ⟨a, n, c, rfl⟩ := hv; rfl

set_option maxRecDepth 100000 in
/-- a deed's three cells -/
theorem open_deed10 {c0 c1 c2 : Value} (h : DataW.trod enc Try.prog w base sp held fuel 51 [c0, c1, c2] = some x) : ∃ X : Dd10, X.Ok ∧ c0 = .int .i64 X.kind ∧ c1 = .int .i64 X.ts ∧ c2 = .string X.val := by
  obtain ⟨y0, y1, y2, n, _, _, h0, h1, h2⟩ := trod_struct3 Try.underlying51 h
  have h0 : DataW.trod enc Try.prog w base sp held n 3 [c0] = some y0 := h0
  have h1 : DataW.trod enc Try.prog w base sp held n 2 [c1] = some y1 := h1
  have h2 : DataW.trod enc Try.prog w base sp held n 9 [c2] = some y2 := h2
  obtain ⟨k, e0, _, b0⟩ := DataW.trod_int Try.underlying3 h0
  obtain ⟨i, e1, _, b1⟩ := DataW.trod_int Try.underlying2 h1
  obtain ⟨s, e2, _, _⟩ := DataW.trod_string Try.underlying9 h2
  cases e0; cases e1; cases e2
  have b0 : -9223372036854775808 ≤ k ∧ k ≤ 9223372036854775807 := by simpa [Lit.wf, IntKind.min, IntKind.max, IntKind.signed, IntKind.bits] using b0
  have b1 : -9223372036854775808 ≤ i ∧ i ≤ 9223372036854775807 := by simpa [Lit.wf, IntKind.min, IntKind.max, IntKind.signed, IntKind.bits] using b1
  exact ⟨⟨k, i, s⟩, ⟨b0.1, b0.2, b1.1, b1.2⟩, rfl, rfl, rfl⟩

theorem cells_three {a : Addr} {cs' : List Value} (h : w.cells? base a 3 = some cs') : ∃ c0 c1 c2, cs' = [c0, c1, c2] ∧ w.cell? (a.add 0) = some c0 ∧ w.cell? (a.add 1) = some c1 ∧ w.cell? (a.add 2) = some c2 := by
  obtain ⟨_, hl, hat⟩ := World.cells?_some h
  match cs', hl with
  | [c0, c1, c2], _ => exact ⟨c0, c1, c2, rfl, hat 0 (by decide), hat 1 (by decide), hat 2 (by decide)⟩

theorem open_dds10 (h : DataW.trod enc Try.prog w base sp held fuel 47 [v] = some x) : ∃ l : List Dd10, Dds10 w (Low w) v l ∧ l.length ≤ maxLen := by
  rcases open_slice Try.underlying47 h with ⟨hcs, _⟩ | ⟨a, len, cap, m, n, D, Pl, hcs, _, hl, hm, hmm, _, hx⟩
  · cases hcs
    exact ⟨[], ⟨none, 0, rfl, Nat.zero_le _, fun x hx => by simp at hx, fun h => absurd rfl h⟩, by simp⟩
  · cases hcs
    have hlm : len ≤ m := by rw [hmm]; split <;> omega
    have hx1 : ∀ i, i < len → ∃ X : Dd10, X.Ok ∧ w.cell? (a.add (i * 3)) = some (.int .i64 X.kind) ∧ w.cell? (a.add (i * 3 + 1)) = some (.int .i64 X.ts) ∧ w.cell? (a.add (i * 3 + 2)) = some (.string X.val) := fun i hi => by
      obtain ⟨cs', hc, ht⟩ := hx i (by omega)
      rw [show Try.prog.cellsOf 51 = 3 by kernel_rfl] at hc
      obtain ⟨c0, c1, c2, rfl, g0, g1, g2⟩ := cells_three hc
      rw [S.add_add] at g0 g1 g2
      obtain ⟨X, hX, e0, e1, e2⟩ := open_deed10 ht
      exact ⟨X, hX, e0 ▸ g0, e1 ▸ g1, e2 ▸ g2⟩
    obtain ⟨l, hll, hle⟩ := list_of len hx1
    subst hll
    refine ⟨l, ⟨some a, cap, rfl, hl, fun x hx => ?_, fun hne => ⟨a, rfl, ?_, fun i hi => (hle i hi).2⟩⟩, by omega⟩
    · obtain ⟨i, hi, rfl⟩ := List.getElem_of_mem hx
      exact (hle i hi).1
    · have h0 : 0 < l.length := List.length_pos_iff.2 hne
      obtain ⟨_, g0, _⟩ := hle 0 h0
      have := World.block_lt_of_cell? w _ g0
      rwa [S.add_block] at this

theorem dds_of {d : DataW H} {p : List MemPlace} (hd : DataW.Trod enc Try.prog w base sp held 47 v d p) (hv : ∃ a n c, v = .slice a n c) : ∃ l : List Dd10, Dds10 w (Low w) v l ∧ l.length ≤ maxLen := by
  obtain ⟨fuel, hf⟩ := hd
  rw [cells_slice hv] at hf
  exact open_dds10 hf

theorem array3 {T : Array Value} (h : T.size = 3) : ∃ a b c, T = #[a, b, c] := by
  obtain ⟨l⟩ := T
  match l, h with
  | [a, b, c], _ => exact ⟨a, b, c, rfl⟩

set_option maxRecDepth 100000 in
/-- a deed by value -/
theorem open_deedv {b0 : Nat} {r : Reach} {d : DataW H} {p : List MemPlace} (hval : Value.okWide Try.prog w r b0 51 v) (hd : DataW.Trod enc Try.prog w base sp held 51 v d p) :
    ∃ (k t : Int) (s : ByteArray), v = .agg #[.int .i64 k, .int .i64 t, .string s] ∧ -9223372036854775808 ≤ t ∧ t ≤ 9223372036854775807 := by
  obtain ⟨cs, rfl, hsz⟩ := okWide_struct Try.underlying51 hval
  obtain ⟨c0, c1, c2, rfl⟩ := array3 (hsz.trans (show Try.prog.cellsOf 51 = 3 by kernel_rfl))
  obtain ⟨fuel, hf⟩ := hd
  obtain ⟨X, hX, rfl, rfl, rfl⟩ := open_deed10 hf
  exact ⟨X.kind, X.ts, X.val, rfl, hX.t0, hX.t1⟩

set_option maxRecDepth 100000 in
/-- a version's four cells -/
theorem open_ver {c0 c1 c2 c3 : Value} (h : DataW.trod enc Try.prog w base sp held fuel 30 [c0, c1, c2, c3] = some x) : ∃ X : Cn.Vr, [c0, c1, c2, c3] = verC X := by
  obtain ⟨y0, y1, y2, y3, n, _, _, h0, h1, h2, h3⟩ := Joins.trod_struct4 Try.underlying30 h
  have h0 : DataW.trod enc Try.prog w base sp held n 2 [c0] = some y0 := h0
  have h1 : DataW.trod enc Try.prog w base sp held n 2 [c1] = some y1 := h1
  have h2 : DataW.trod enc Try.prog w base sp held n 9 [c2] = some y2 := h2
  have h3 : DataW.trod enc Try.prog w base sp held n 4 [c3] = some y3 := h3
  obtain ⟨k, e0, _, _⟩ := DataW.trod_int Try.underlying2 h0
  obtain ⟨i, e1, _, _⟩ := DataW.trod_int Try.underlying2 h1
  obtain ⟨s, e2, _, _⟩ := DataW.trod_string Try.underlying9 h2
  obtain ⟨z, e3, _⟩ := DataW.trod_bool Try.underlying4 h3
  cases e0; cases e1; cases e2; cases e3
  exact ⟨⟨k, i, s, z⟩, rfl⟩

theorem cells_four {a : Addr} {cs' : List Value} (h : w.cells? base a 4 = some cs') : ∃ c0 c1 c2 c3, cs' = [c0, c1, c2, c3] ∧ w.cell? (a.add 0) = some c0 ∧ w.cell? (a.add 1) = some c1 ∧ w.cell? (a.add 2) = some c2 ∧ w.cell? (a.add 3) = some c3 := by
  obtain ⟨_, hl, hat⟩ := World.cells?_some h
  match cs', hl with
  | [c0, c1, c2, c3], _ => exact ⟨c0, c1, c2, c3, rfl, hat 0 (by decide), hat 1 (by decide), hat 2 (by decide), hat 3 (by decide)⟩

theorem open_vers (h : DataW.trod enc Try.prog w base sp held fuel 22 [v] = some x) : ∃ c : Cn.Ch, SlC w (Low w) v c ∧ c.length ≤ maxLen := by
  rcases open_slice Try.underlying22 h with ⟨hcs, _⟩ | ⟨a, len, cap, m, n, D, Pl, hcs, _, hl, hm, hmm, _, hx⟩
  · cases hcs
    exact ⟨[], S.Sg.nil .., by simp⟩
  · cases hcs
    have hlm : len ≤ m := by rw [hmm]; split <;> omega
    have hx1 : ∀ i, i < len → ∃ X : Cn.Vr, ∀ j, j < 4 → w.cell? (a.add (i * 4 + j)) = (verC X)[j]? := fun i hi => by
      obtain ⟨cs', hc, ht⟩ := hx i (by omega)
      rw [show Try.prog.cellsOf 30 = 4 by kernel_rfl] at hc
      obtain ⟨c0, c1, c2, c3, rfl, g0, g1, g2, g3⟩ := cells_four hc
      rw [S.add_add] at g0 g1 g2 g3
      obtain ⟨X, e⟩ := open_ver ht
      refine ⟨X, fun j hj => ?_⟩
      rw [← e]
      match j, hj with
      | 0, _ => exact g0
      | 1, _ => exact g1
      | 2, _ => exact g2
      | 3, _ => exact g3
    obtain ⟨l, hll, hle⟩ := list_of len hx1
    subst hll
    refine ⟨l, ⟨verV_length l, some a, cap, rfl, hl, fun hne => ⟨a, rfl, ?_, fun j u hj => ?_⟩⟩, by omega⟩
    · have h0 : 0 < l.length := by omega
      have g := hle 0 h0 0 (by decide)
      have := World.block_lt_of_cell? w _ (show w.cell? (a.add (0 * 4 + 0)) = some _ from g)
      rwa [S.add_block] at this
    · have hjl := (List.getElem?_eq_some_iff.1 hj).1
      rw [verV_length] at hjl
      have hi : j / 4 < l.length := by omega
      have hm4 : j % 4 < 4 := Nat.mod_lt _ (by decide)
      have e1 : j / 4 * 4 + j % 4 = j := by omega
      have g := hle (j / 4) hi (j % 4) hm4
      have f := V.flat_at (f := verC) (m := 4) l (fun _ _ => rfl) (j / 4) hi (j % 4) hm4
      rw [e1] at g f
      rw [g, ← f]
      exact hj

theorem vers_of {d : DataW H} {p : List MemPlace} (hd : DataW.Trod enc Try.prog w base sp held 22 v d p) (hv : ∃ a n c, v = .slice a n c) : ∃ c : Cn.Ch, SlC w (Low w) v c ∧ c.length ≤ maxLen := by
  obtain ⟨fuel, hf⟩ := hd
  rw [cells_slice hv] at hf
  exact open_vers hf
end

end Go.Proofs.Ytgbicdaljnegfaa.law
