/-
  How the arguments of layer sweep's laws are opened: slices of versions, of timestamps, of keys with their chains; a turn by value.
-/
import Derived.Test.YtmlocdfjjgbnjaaLawKit
import Derived.Test.YtmlocdfjjgbnjaaSwLaw3
import Derived.Deep.Slices
import Derived.Deep.Strs
import Derived.SizedLaws
namespace Go.Proofs.Ytmlocdfjjgbnjaa.law
open Go.ChangeShapes Go.WideShapes Go.ChangeAt Go.RowKit Go.Deep

abbrev Low (w : World) : Nat → Prop := fun b => b < w.heap.size

theorem list_of {α : Type} {p : Nat → α → Prop} (n : Nat) (h : ∀ i, i < n → ∃ c, p i c) : ∃ l : List α, l.length = n ∧ ∀ i (hi : i < l.length), p i l[i] := by
  induction n with
  | zero => exact ⟨[], rfl, fun i hi => by simp at hi⟩
  | succ k ih =>
    obtain ⟨l, h1, h2⟩ := ih (fun i hi => h i (by omega))
    obtain ⟨c, hc⟩ := h k (by omega)
    refine ⟨l ++ [c], by simp [h1], fun i hi => ?_⟩
    by_cases hik : i < l.length
    · rw [List.getElem_append_left hik]; exact h2 i hik
    · have : i = k := by simp at hi; omega
      subst this
      rw [List.getElem_append_right (by omega)]
      simpa using hc

section
variable {H : Type} {enc : TypeId × Value → H} {w : World} {base fuel : Nat} {sp : Nat → Bool} {held : Bool} {v : Value} {x : DataW H × List MemPlace}

theorem cells_slice (hv : ∃ a n c, v = .slice a n c) : v.cells.toList = [v] := by obtain ⟨a, n, c, rfl⟩ := hv; rfl

set_option maxRecDepth 100000 in
/-- a version's four cells -/
theorem open_ver {c0 c1 c2 c3 : Value} (h : DataW.trod enc Try.prog w base sp held fuel 38 [c0, c1, c2, c3] = some x) : ∃ X : Cn.Vr, RngV X ∧ [c0, c1, c2, c3] = verC X := by
  obtain ⟨y0, y1, y2, y3, n, _, _, h0, h1, h2, h3⟩ := Joins.trod_struct4 Try.underlying38 h
  have h0 : DataW.trod enc Try.prog w base sp held n 2 [c0] = some y0 := h0
  have h1 : DataW.trod enc Try.prog w base sp held n 2 [c1] = some y1 := h1
  have h2 : DataW.trod enc Try.prog w base sp held n 9 [c2] = some y2 := h2
  have h3 : DataW.trod enc Try.prog w base sp held n 4 [c3] = some y3 := h3
  obtain ⟨k, e0, _, b0⟩ := DataW.trod_int Try.underlying2 h0
  obtain ⟨i, e1, _, b1⟩ := DataW.trod_int Try.underlying2 h1
  obtain ⟨s, e2, _, _⟩ := DataW.trod_string Try.underlying9 h2
  obtain ⟨z, e3, _⟩ := DataW.trod_bool Try.underlying4 h3
  cases e0; cases e1; cases e2; cases e3
  have b0 : -9223372036854775808 ≤ k ∧ k ≤ 9223372036854775807 := by simpa [Lit.wf, IntKind.min, IntKind.max, IntKind.signed, IntKind.bits] using b0
  have b1 : -9223372036854775808 ≤ i ∧ i ≤ 9223372036854775807 := by simpa [Lit.wf, IntKind.min, IntKind.max, IntKind.signed, IntKind.bits] using b1
  exact ⟨⟨k, i, s, z⟩, ⟨b0.1, b0.2, b1.1, b1.2⟩, rfl⟩

theorem cells_four {a : Addr} {cs' : List Value} (h : w.cells? base a 4 = some cs') : ∃ c0 c1 c2 c3, cs' = [c0, c1, c2, c3] ∧ w.cell? (a.add 0) = some c0 ∧ w.cell? (a.add 1) = some c1 ∧ w.cell? (a.add 2) = some c2 ∧ w.cell? (a.add 3) = some c3 := by
  obtain ⟨_, hl, hat⟩ := World.cells?_some h
  match cs', hl with
  | [c0, c1, c2, c3], _ => exact ⟨c0, c1, c2, c3, rfl, hat 0 (by decide), hat 1 (by decide), hat 2 (by decide), hat 3 (by decide)⟩

set_option maxRecDepth 100000 in
theorem open_vers (h : DataW.trod enc Try.prog w base sp held fuel 22 [v] = some x) : ∃ c : Cn.Ch, SlC w (Low w) v c ∧ RngC c ∧ c.length ≤ maxLen := by
  rcases open_slice Try.underlying22 h with ⟨hcs, _⟩ | ⟨a, len, cap, m, n, D, Pl, hcs, _, hl, hm, hmm, _, hx⟩
  · cases hcs
    exact ⟨[], S.Sg.nil .., fun v hv => by (cases hv), by simp⟩
  · cases hcs
    have hlm : len ≤ m := by rw [hmm]; split <;> omega
    have hx1 : ∀ i, i < len → ∃ X : Cn.Vr, RngV X ∧ ∀ j, j < 4 → w.cell? (a.add (i * 4 + j)) = (verC X)[j]? := fun i hi => by
      obtain ⟨cs', hc, ht⟩ := hx i (by omega)
      rw [show Try.prog.cellsOf 38 = 4 by kernel_rfl] at hc
      obtain ⟨c0, c1, c2, c3, rfl, g0, g1, g2, g3⟩ := cells_four hc
      rw [S.add_add] at g0 g1 g2 g3
      obtain ⟨X, hX, e⟩ := open_ver ht
      refine ⟨X, hX, fun j hj => ?_⟩
      rw [← e]
      match j, hj with
      | 0, _ => exact g0
      | 1, _ => exact g1
      | 2, _ => exact g2
      | 3, _ => exact g3
    obtain ⟨l, hll, hle⟩ := list_of len hx1
    subst hll
    refine ⟨l, ⟨verV_length l, some a, cap, rfl, hl, fun hne => ⟨a, rfl, ?_, fun j u hj => ?_⟩⟩, fun x hx => ?_, by omega⟩
    · have h0 : 0 < l.length := by omega
      have g := (hle 0 h0).2 0 (by decide)
      have := World.block_lt_of_cell? w _ (show w.cell? (a.add (0 * 4 + 0)) = some _ from g)
      rwa [S.add_block] at this
    · have hjl := (List.getElem?_eq_some_iff.1 hj).1
      rw [verV_length] at hjl
      have hi : j / 4 < l.length := by omega
      have hm4 : j % 4 < 4 := Nat.mod_lt _ (by decide)
      have e1 : j / 4 * 4 + j % 4 = j := by omega
      have g := (hle (j / 4) hi).2 (j % 4) hm4
      have f := V.flat_at (f := verC) (m := 4) l (fun _ _ => rfl) (j / 4) hi (j % 4) hm4
      rw [e1] at g f
      rw [g, ← f]
      exact hj
    · obtain ⟨i, hi, rfl⟩ := List.getElem_of_mem hx
      exact (hle i hi).1

theorem vers_of {d : DataW H} {p : List MemPlace} (hd : DataW.Trod enc Try.prog w base sp held 22 v d p) (hv : ∃ a n c, v = .slice a n c) : ∃ c : Cn.Ch, Lc w v c ∧ RngC c := by
  obtain ⟨fuel, hf⟩ := hd
  rw [cells_slice hv] at hf
  obtain ⟨c, h1, h2, _⟩ := open_vers hf
  exact ⟨c, ⟨_, h1, fun b q => q⟩, h2⟩

theorem cell_len {a : Addr} {n : Nat} {cs' : List Value} (h : w.cells? base (a.add n) 1 = some cs') : ∃ u, cs' = [u] ∧ w.cell? (a.add n) = some u := by
  obtain ⟨_, hl, hat⟩ := World.cells?_some h
  match cs', hl with
  | [u], _ =>
    have := hat 0 (by decide)
    exact ⟨u, rfl, by simpa [Addr.add] using this⟩

theorem open_nums (h : DataW.trod enc Try.prog w base sp held fuel 23 [v] = some x) : ∃ l : List Int, SlN w (Low w) v l ∧ RngN l := by
  rcases open_slice Try.underlying23 h with ⟨hcs, _⟩ | ⟨a, len, cap, m, n, D, Pl, hcs, _, hl, hm, hmm, _, hx⟩
  · cases hcs
    exact ⟨[], S.Sg.nil .., fun v hv => by (cases hv)⟩
  · cases hcs
    have hlm : len ≤ m := by rw [hmm]; split <;> omega
    have hx1 : ∀ i, i < len → ∃ c : Int, (-9223372036854775808 ≤ c ∧ c ≤ 9223372036854775807) ∧ w.cell? (a.add i) = some (.int .i64 c) := fun i hi => by
      obtain ⟨cs', hc, ht⟩ := hx i (by omega)
      rw [show Try.prog.cellsOf 2 = 1 by kernel_rfl, Nat.mul_one] at hc
      obtain ⟨u, rfl, hu⟩ := cell_len hc
      obtain ⟨z, e, _, hw⟩ := DataW.trod_int Try.underlying2 ht
      cases e
      have hb : -9223372036854775808 ≤ z ∧ z ≤ 9223372036854775807 := by simpa [Lit.wf, IntKind.min, IntKind.max, IntKind.signed, IntKind.bits] using hw
      exact ⟨z, hb, hu⟩
    obtain ⟨l, hll, hle⟩ := list_of len hx1
    subst hll
    refine ⟨l, ⟨by rw [numV_length, Nat.mul_one], some a, cap, rfl, hl, fun hne => ⟨a, rfl, ?_, fun j u hj => ?_⟩⟩, fun x hx => ?_⟩
    · have := World.block_lt_of_cell? w _ (hle 0 (by omega)).2
      rwa [S.add_block] at this
    · have hjl := (List.getElem?_eq_some_iff.1 hj).1
      rw [numV_length] at hjl
      rw [(hle j hjl).2, ← hj, numV_at l j hjl]
    · obtain ⟨i, hi, rfl⟩ := List.getElem_of_mem hx
      exact (hle i hi).1

theorem nums_of {d : DataW H} {p : List MemPlace} (hd : DataW.Trod enc Try.prog w base sp held 23 v d p) (hv : ∃ a n c, v = .slice a n c) : ∃ l : List Int, Ln w v l ∧ RngN l := by
  obtain ⟨fuel, hf⟩ := hd
  rw [cells_slice hv] at hf
  obtain ⟨l, h1, h2⟩ := open_nums hf
  exact ⟨l, ⟨_, h1, fun b q => q⟩, h2⟩

set_option maxRecDepth 100000 in
/-- a key's three cells -/
theorem open_key3 {c0 c1 c2 : Value} (h : DataW.trod enc Try.prog w base sp held fuel 50 [c0, c1, c2] = some x) : ∃ k : Cl.Ky, c0 = .int .i64 k.kind ∧ c1 = .int .i64 k.a ∧ c2 = .int .i64 k.b := by
  obtain ⟨y0, y1, y2, n, _, _, h0, h1, h2⟩ := trod_struct3 Try.underlying50 h
  have h0 : DataW.trod enc Try.prog w base sp held n 3 [c0] = some y0 := h0
  have h1 : DataW.trod enc Try.prog w base sp held n 3 [c1] = some y1 := h1
  have h2 : DataW.trod enc Try.prog w base sp held n 3 [c2] = some y2 := h2
  obtain ⟨k, e0, _, _⟩ := DataW.trod_int Try.underlying3 h0
  obtain ⟨i, e1, _, _⟩ := DataW.trod_int Try.underlying3 h1
  obtain ⟨j, e2, _, _⟩ := DataW.trod_int Try.underlying3 h2
  cases e0; cases e1; cases e2
  exact ⟨⟨k, i, j⟩, rfl, rfl, rfl⟩
set_option maxRecDepth 100000 in
/-- a key's and a chain's cells -/
theorem open_cell {c0 c1 c2 c3 : Value} (h : DataW.trod enc Try.prog w base sp held fuel 82 [c0, c1, c2, c3] = some x) : ∃ X : Cl.Ky × Cn.Ch, RngC X.2 ∧ c0 = .int .i64 X.1.kind ∧ c1 = .int .i64 X.1.a ∧ c2 = .int .i64 X.1.b ∧ SlC w (Low w) c3 X.2 := by
  obtain ⟨y0, y1, n, _, _, h0, h1⟩ := trod_struct2 Try.underlying82 h
  have h0 : DataW.trod enc Try.prog w base sp held n 50 [c0, c1, c2] = some y0 := h0
  have h1 : DataW.trod enc Try.prog w base sp held n 22 [c3] = some y1 := h1
  obtain ⟨kk, rfl, rfl, rfl⟩ := open_key3 h0
  obtain ⟨l, hl, hr, _⟩ := open_vers h1
  exact ⟨⟨kk, l⟩, hr, rfl, rfl, rfl, hl⟩

set_option maxRecDepth 100000 in
theorem open_cls (h : DataW.trod enc Try.prog w base sp held fuel 48 [v] = some x) : ∃ l : Cl.Cs, Cla w (Low w) v l ∧ ∀ p ∈ l, RngC p.2 := by
  rcases open_slice Try.underlying48 h with ⟨hcs, _⟩ | ⟨a, len, cap, m, n, D, Pl, hcs, _, hl, hm, hmm, _, hx⟩
  · cases hcs
    exact ⟨[], ⟨none, 0, rfl, Nat.zero_le _, fun h => absurd rfl h⟩, fun x hx => by simp at hx⟩
  · cases hcs
    have hlm : len ≤ m := by rw [hmm]; split <;> omega
    have hx1 : ∀ i, i < len → ∃ X : Cl.Ky × Cn.Ch, RngC X.2 ∧ ∃ vc, w.cell? (a.add (i * 4)) = some (.int .i64 X.1.kind) ∧ w.cell? (a.add (i * 4 + 1)) = some (.int .i64 X.1.a) ∧ w.cell? (a.add (i * 4 + 2)) = some (.int .i64 X.1.b) ∧ w.cell? (a.add (i * 4 + 3)) = some vc ∧ SlC w (Low w) vc X.2 := fun i hi => by
      obtain ⟨cs', hc, ht⟩ := hx i (by omega)
      rw [show Try.prog.cellsOf 82 = 4 by kernel_rfl] at hc
      obtain ⟨c0, c1, c2, c3, rfl, g0, g1, g2, g3⟩ := cells_four hc
      rw [S.add_add] at g0 g1 g2 g3
      obtain ⟨X, hX, rfl, rfl, rfl, hs⟩ := open_cell ht
      exact ⟨X, hX, c3, g0, g1, g2, g3, hs⟩
    obtain ⟨l, hll, hle⟩ := list_of len hx1
    subst hll
    refine ⟨l, ⟨some a, cap, rfl, hl, fun hne => ⟨a, rfl, ?_, fun i hi => (hle i hi).2⟩⟩, fun x hx => ?_⟩
    · have h0 : 0 < l.length := List.length_pos_iff.2 hne
      obtain ⟨_, _, g0, _⟩ := hle 0 h0
      have := World.block_lt_of_cell? w _ g0
      rwa [S.add_block] at this
    · obtain ⟨i, hi, rfl⟩ := List.getElem_of_mem hx
      exact (hle i hi).1

set_option maxRecDepth 100000 in
theorem cls_of {d : DataW H} {p : List MemPlace} (hd : DataW.Trod enc Try.prog w base sp held 48 v d p) (hv : ∃ a n c, v = .slice a n c) : ∃ l : Cl.Cs, Cla w (Low w) v l ∧ ∀ p ∈ l, RngC p.2 := by
  obtain ⟨fuel, hf⟩ := hd
  rw [cells_slice hv] at hf
  exact open_cls hf

theorem array4 {T : Array Value} (h : T.size = 4) : ∃ a b c d, T = #[a, b, c, d] := by
  obtain ⟨l⟩ := T
  match l, h with
  | [a, b, c, d], _ => exact ⟨a, b, c, d, rfl⟩

set_option maxRecDepth 100000 in
/-- a turn by value -/
theorem open_turn {b0 : Nat} {r : Reach} {d : DataW H} {p : List MemPlace} (hval : Value.okWide Try.prog w r b0 52 v) (hd : DataW.Trod enc Try.prog w base sp held 52 v d p) :
    ∃ (k : Cl.Ky) (n : Int), v = .agg #[.int .i64 k.kind, .int .i64 k.a, .int .i64 k.b, .int .i64 n] ∧ -9223372036854775808 ≤ n ∧ n ≤ 9223372036854775807 := by
  obtain ⟨cs, rfl, hsz⟩ := okWide_struct Try.underlying52 hval
  obtain ⟨c0, c1, c2, c3, rfl⟩ := array4 (hsz.trans (show Try.prog.cellsOf 52 = 4 by kernel_rfl))
  obtain ⟨fuel, hf⟩ := hd
  obtain ⟨y0, y1, n, _, _, h0, h1⟩ := trod_struct2 Try.underlying52 hf
  have h0 : DataW.trod enc Try.prog w base sp held n 50 [c0, c1, c2] = some y0 := h0
  have h1 : DataW.trod enc Try.prog w base sp held n 3 [c3] = some y1 := h1
  obtain ⟨kk, rfl, rfl, rfl⟩ := open_key3 h0
  obtain ⟨z, e, _, b⟩ := DataW.trod_int Try.underlying3 h1
  cases e
  have b : -9223372036854775808 ≤ z ∧ z ≤ 9223372036854775807 := by simpa [Lit.wf, IntKind.min, IntKind.max, IntKind.signed, IntKind.bits] using b
  exact ⟨kk, z, rfl, b.1, b.2⟩
end

end Go.Proofs.Ytmlocdfjjgbnjaa.law
