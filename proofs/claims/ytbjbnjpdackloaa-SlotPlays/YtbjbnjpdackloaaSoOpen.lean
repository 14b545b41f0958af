/-
  How the arguments of layer slot's laws are opened: slices of bytes, of bools, of slices of bytes, of deeds; an area by value.
-/
import Derived.Test.YtbjbnjpdackloaaLawKit
import Derived.Test.YtbjbnjpdackloaaSoDds
import Derived.Deep.Slices
import Derived.Deep.Strs
import Derived.SizedLaws
namespace Go.Proofs.Ytbjbnjpdackloaa.law
open Go.ChangeShapes Go.WideShapes Go.ChangeAt Go.RowKit Go.Deep

abbrev Low (w : World) : Nat → Prop := fun b => b < w.heap.size

theorem list_of {α : Type} {p : Nat → α → Prop} (n : Nat) (h : ∀ i, i < n → ∃ c, p i c) : ∃ l : List α, l.length = n ∧ ∀ i (hi : i < l.length), p i l[i] := by
  induction n with
  | zero => exact ⟨[], rfl, fun i hi => by simp at hi⟩
  | succ k ih =>
    obtain ⟨l, h1, h2⟩ := ih (fun i hi => h i (by omega))
    obtain ⟨c, hc⟩ := h k (by omega)
    refine ⟨l ++ [c], by simp [h1], fun i hi => ?_⟩
    by_cases hik : i < l.length
    · rw [List.getElem_append_left hik]; exact h2 i hik
    · have : i = k := by simp at hi; omega
      subst this
      rw [List.getElem_append_right (by omega)]
      simpa using hc

section
variable {H : Type} {enc : TypeId × Value → H} {w : World} {base fuel : Nat} {sp : Nat → Bool} {held : Bool} {v : Value} {x : DataW H × List MemPlace}

theorem cell_len {a : Addr} {n : Nat} {cs' : List Value} (h : w.cells? base (a.add n) 1 = some cs') : ∃ u, cs' = [u] ∧ w.cell? (a.add n) = some u := by
  obtain ⟨_, hl, hat⟩ := World.cells?_some h
  match cs', hl with
  | [u], _ =>
    have := hat 0 (by decide)
    exact ⟨u, rfl, by simpa [Addr.add] using this⟩

theorem open_b (h : DataW.trod enc Try.prog w base sp held fuel 37 [v] = some x) : ∃ l : List UInt8, SlB w (Low w) v l ∧ l.length ≤ maxLen := by
  rcases open_slice Try.underlying37 h with ⟨hcs, _⟩ | ⟨a, len, cap, m, n, D, Pl, hcs, _, hl, hm, hmm, _, hx⟩
  · cases hcs
    exact ⟨[], S.Sg.nil .., by simp⟩
  · cases hcs
    have hlm : len ≤ m := by rw [hmm]; split <;> omega
    have hx1 : ∀ i, i < len → ∃ c : UInt8, w.cell? (a.add i) = some (.int .u8 (c.toNat : Int)) := fun i hi => by
      obtain ⟨cs', hc, ht⟩ := hx i (by omega)
      rw [show Try.prog.cellsOf 5 = 1 by kernel_rfl, Nat.mul_one] at hc
      obtain ⟨u, rfl, hu⟩ := cell_len hc
      obtain ⟨z, e, _, hw⟩ := DataW.trod_int Try.underlying5 ht
      cases e
      have hb : 0 ≤ z ∧ z ≤ 255 := by simpa [Lit.wf, IntKind.min, IntKind.max, IntKind.signed, IntKind.bits] using hw
      refine ⟨UInt8.ofNat z.toNat, ?_⟩
      rw [hu]
      congr 2
      simp
      omega
    obtain ⟨l, hll, hle⟩ := list_of len hx1
    subst hll
    refine ⟨l, ⟨by rw [bytesV_length, Nat.mul_one], some a, cap, rfl, hl, fun hne => ⟨a, rfl, ?_, fun j u hj => ?_⟩⟩, by omega⟩
    · have := World.block_lt_of_cell? w _ (hle 0 (by omega))
      rwa [S.add_block] at this
    · have hjl := (List.getElem?_eq_some_iff.1 hj).1
      rw [bytesV_length] at hjl
      rw [hle j hjl, ← hj, bytesV_at l j hjl]

theorem cells_slice (hv : ∃ a n c, v = .slice a n c) : v.cells.toList = [v] := by obtain ⟨a, n, c, rfl⟩ := hv; rfl

theorem open_bytes {d : DataW H} {p : List MemPlace} (hd : DataW.Trod enc Try.prog w base sp held 37 v d p) (hv : ∃ a n c, v = .slice a n c) : ∃ l : List UInt8, SlB w (Low w) v l ∧ l.length ≤ maxLen := by
  obtain ⟨fuel, hf⟩ := hd
  rw [cells_slice hv] at hf
  exact open_b hf

theorem open_t (h : DataW.trod enc Try.prog w base sp held fuel 38 [v] = some x) : ∃ l : List Bool, SlT w (Low w) v l ∧ l.length ≤ maxLen := by
  rcases open_slice Try.underlying38 h with ⟨hcs, _⟩ | ⟨a, len, cap, m, n, D, Pl, hcs, _, hl, hm, hmm, _, hx⟩
  · cases hcs
    exact ⟨[], S.Sg.nil .., by simp⟩
  · cases hcs
    have hlm : len ≤ m := by rw [hmm]; split <;> omega
    have hx1 : ∀ i, i < len → ∃ c : Bool, w.cell? (a.add i) = some (.bool c) := fun i hi => by
      obtain ⟨cs', hc, ht⟩ := hx i (by omega)
      rw [show Try.prog.cellsOf 4 = 1 by kernel_rfl, Nat.mul_one] at hc
      obtain ⟨u, rfl, hu⟩ := cell_len hc
      obtain ⟨z, e, _⟩ := DataW.trod_bool Try.underlying4 ht
      cases e
      exact ⟨z, hu⟩
    obtain ⟨l, hll, hle⟩ := list_of len hx1
    subst hll
    refine ⟨l, ⟨by rw [boolV_length, Nat.mul_one], some a, cap, rfl, hl, fun hne => ⟨a, rfl, ?_, fun j u hj => ?_⟩⟩, by omega⟩
    · have := World.block_lt_of_cell? w _ (hle 0 (by omega))
      rwa [S.add_block] at this
    · have hjl := (List.getElem?_eq_some_iff.1 hj).1
      rw [boolV_length] at hjl
      rw [hle j hjl, ← hj, boolV_at l j hjl]

theorem bools_of {d : DataW H} {p : List MemPlace} (hd : DataW.Trod enc Try.prog w base sp held 38 v d p) (hv : ∃ a n c, v = .slice a n c) : ∃ l : List Bool, SlT w (Low w) v l ∧ l.length ≤ maxLen := by
  obtain ⟨fuel, hf⟩ := hd
  rw [cells_slice hv] at hf
  exact open_t hf

theorem bytes1 : Try.prog.bytesOf 5 = 1 := by kernel_rfl

/-- bytes, no more than their weight -/
theorem open_b8 (h : DataW.trod enc Try.prog w base sp held fuel 37 [v] = some x) (hx : ∀ n ∈ x.1.weights Try.prog 37, n ≤ reachBytes) : ∃ l : List UInt8, SlB w (Low w) v l ∧ l.length ≤ 140737488355328 := by
  obtain ⟨l, hl, _⟩ := open_b h
  refine ⟨l, hl, ?_⟩
  obtain ⟨A, cap, e, _⟩ := Sg_form hl
  rcases open_slice Try.underlying37 h with ⟨hcs, _⟩ | ⟨a, len, cap', m, n, D, Pl, hcs, _, hl', hm, hmm, ex, _⟩
  · rw [e] at hcs
    cases l with
    | nil => simp
    | cons c r => simp at hcs
  · rw [e] at hcs
    have hlen : l.length = len := by simp at hcs; exact hcs.2.1
    rw [ex] at hx
    have := hx ((((List.range len).map D).length + ((List.range (m - len)).map fun j => D (len + j)).length) * Try.prog.bytesOf 5) (by simp [DataW.weights, Try.underlying37])
    rw [bytes1] at this
    simp [reachBytes] at this
    omega

theorem weights_all {e : TypeId} : ∀ {ds : List (DataW H)} {d : DataW H}, d ∈ ds → ∀ n ∈ d.weights Try.prog e, n ∈ DataW.weightsAll Try.prog e ds := by
  intro ds
  induction ds with
  | nil => intro d hd; cases hd
  | cons a r ih =>
    intro d hd n hn
    rw [DataW.weightsAll]
    rcases List.mem_cons.1 hd with rfl | hd
    · exact List.mem_append_left _ hn
    · exact List.mem_append_right _ (ih hd n hn)

theorem open_bs8 (h : DataW.trod enc Try.prog w base sp held fuel 49 [v] = some x) (hw : ∀ n ∈ x.1.weights Try.prog 49, n ≤ reachBytes) : ∃ l : List (List UInt8), Bs8 w (Low w) v l ∧ l.length ≤ maxLen := by
  rcases open_slice Try.underlying49 h with ⟨hcs, _⟩ | ⟨a, len, cap, m, n, D, Pl, hcs, _, hl, hm, hmm, ex, hx⟩
  · cases hcs
    exact ⟨[], ⟨none, 0, rfl, Nat.zero_le _, fun x hx => by simp at hx, fun h => absurd rfl h⟩, by simp⟩
  · cases hcs
    have hlm : len ≤ m := by rw [hmm]; split <;> omega
    have hx1 : ∀ i, i < len → ∃ b : List UInt8, b.length ≤ 140737488355328 ∧ ∃ vb, w.cell? (a.add i) = some vb ∧ SlB w (Low w) vb b := fun i hi => by
      obtain ⟨cs', hc, ht⟩ := hx i (by omega)
      rw [show Try.prog.cellsOf 37 = 1 by kernel_rfl, Nat.mul_one] at hc
      obtain ⟨u, rfl, hu⟩ := cell_len hc
      obtain ⟨b, hb, hbl⟩ := open_b8 ht (fun k hk => hw k (by
        rw [ex]
        have h1 := weights_all (e := 37) (ds := (List.range len).map D) (List.mem_map.2 ⟨i, List.mem_range.2 hi, rfl⟩) k hk
        simp only [DataW.weights, Try.underlying49]
        exact List.mem_cons_of_mem _ (List.mem_append_left _ h1)))
      exact ⟨b, hbl, u, hu, hb⟩
    obtain ⟨l, hll, hle⟩ := list_of len hx1
    subst hll
    refine ⟨l, ⟨some a, cap, rfl, hl, fun x hx => ?_, fun hne => ⟨a, rfl, ?_, fun i hi => (hle i hi).2⟩⟩, by omega⟩
    · obtain ⟨i, hi, rfl⟩ := List.getElem_of_mem hx
      exact (hle i hi).1
    · have h0 : 0 < l.length := List.length_pos_iff.2 hne
      obtain ⟨_, vb, g0, _⟩ := hle 0 h0
      have := World.block_lt_of_cell? w _ g0
      rwa [S.add_block] at this

theorem bs8_of {d : DataW H} {p : List MemPlace} {ts : List TypeId} {ds : List (DataW H)} (hd : DataW.Trod enc Try.prog w base sp held 49 v d p) (hv : ∃ a n c, v = .slice a n c) (hs : (DataW.weightsEach Try.prog ts ds).all (· ≤ reachBytes) = true) {j : Nat} (ht : ts[j]? = some 49) (hj : ds[j]? = some d) : ∃ l : List (List UInt8), Bs8 w (Low w) v l ∧ l.length ≤ maxLen := by
  obtain ⟨fuel, hf⟩ := hd
  rw [cells_slice hv] at hf
  exact open_bs8 hf (fun n hn => of_decide_eq_true (List.all_eq_true.1 hs _ (DataW.weights_mem_each ht hj n hn)))

theorem array2 {T : Array Value} (h : T.size = 2) : ∃ a b, T = #[a, b] := by
  obtain ⟨l⟩ := T
  match l, h with
  | [a, b], _ => exact ⟨a, b, rfl⟩

set_option maxRecDepth 100000 in
/-- an area by value -/
theorem open_area {b0 : Nat} {r : Reach} {d : DataW H} {p : List MemPlace} (hval : Value.okWide Try.prog w r b0 23 v) (hd : DataW.Trod enc Try.prog w base sp held 23 v d p) :
    ∃ (first size : Int), v = .agg #[.int .i64 first, .int .i64 size] ∧ (-9223372036854775808 ≤ first ∧ first ≤ 9223372036854775807) ∧ (-9223372036854775808 ≤ size ∧ size ≤ 9223372036854775807) := by
  obtain ⟨cs, rfl, hsz⟩ := okWide_struct Try.underlying23 hval
  obtain ⟨c0, c1, rfl⟩ := array2 (hsz.trans (show Try.prog.cellsOf 23 = 2 by kernel_rfl))
  obtain ⟨fuel, hf⟩ := hd
  obtain ⟨z0, z1, m, _, _, g0, g1⟩ := trod_struct2 Try.underlying23 hf
  have g0 : DataW.trod enc Try.prog w base sp held m 3 [c0] = some z0 := g0
  have g1 : DataW.trod enc Try.prog w base sp held m 3 [c1] = some z1 := g1
  obtain ⟨f, e0, _, b0⟩ := DataW.trod_int Try.underlying3 g0
  obtain ⟨k, e1, _, b1⟩ := DataW.trod_int Try.underlying3 g1
  cases e0; cases e1
  have b0 : -9223372036854775808 ≤ f ∧ f ≤ 9223372036854775807 := by simpa [Lit.wf, IntKind.min, IntKind.max, IntKind.signed, IntKind.bits] using b0
  have b1 : -9223372036854775808 ≤ k ∧ k ≤ 9223372036854775807 := by simpa [Lit.wf, IntKind.min, IntKind.max, IntKind.signed, IntKind.bits] using b1
  exact ⟨f, k, rfl, b0, b1⟩

theorem trod_struct5 {P : Program} {t : TypeId} {f0 f1 f2 f3 f4 : Field} {cs : List Value} (ht : P.underlying t = some (.struct #[f0, f1, f2, f3, f4])) (h : DataW.trod enc P w base sp held fuel t cs = some x) :
    ∃ y0 y1 y2 y3 y4 n, cs.length = P.cellsOf t ∧ DataW.trod enc P w base sp held n f0.type ((cs.drop f0.offset).take (P.cellsOf f0.type)) = some y0 ∧
      DataW.trod enc P w base sp held n f1.type ((cs.drop f1.offset).take (P.cellsOf f1.type)) = some y1 ∧ DataW.trod enc P w base sp held n f2.type ((cs.drop f2.offset).take (P.cellsOf f2.type)) = some y2 ∧
      DataW.trod enc P w base sp held n f3.type ((cs.drop f3.offset).take (P.cellsOf f3.type)) = some y3 ∧ DataW.trod enc P w base sp held n f4.type ((cs.drop f4.offset).take (P.cellsOf f4.type)) = some y4 := by
  obtain ⟨xs, n, _, rfl, hl, hlen, hf⟩ := DataW.trod_struct ht h
  match xs, hlen with
  | [y0, y1, y2, y3, y4], _ => exact ⟨y0, y1, y2, y3, y4, n, hl, by simpa using hf 0 f0 rfl, by simpa using hf 1 f1 rfl, by simpa using hf 2 f2 rfl, by simpa using hf 3 f3 rfl, by simpa using hf 4 f4 rfl⟩

set_option maxRecDepth 100000 in
/-- a deed's five cells -/
theorem open_deed5 {c0 c1 c2 c3 c4 : Value} (h : DataW.trod enc Try.prog w base sp held fuel 40 [c0, c1, c2, c3, c4] = some x) : ∃ X : Dd, X.Ok ∧ DdV w (Low w) c0 c1 c2 c3 c4 X := by
  obtain ⟨y0, y1, y2, y3, y4, n, _, h0, h1, h2, h3, h4⟩ := trod_struct5 Try.underlying40 h
  have h0 : DataW.trod enc Try.prog w base sp held n 3 [c0] = some y0 := h0
  have h1 : DataW.trod enc Try.prog w base sp held n 36 [c1] = some y1 := h1
  have h2 : DataW.trod enc Try.prog w base sp held n 3 [c2] = some y2 := h2
  have h3 : DataW.trod enc Try.prog w base sp held n 37 [c3] = some y3 := h3
  have h4 : DataW.trod enc Try.prog w base sp held n 38 [c4] = some y4 := h4
  obtain ⟨k, e0, _, b0⟩ := DataW.trod_int Try.underlying3 h0
  obtain ⟨g, e1, _, b1⟩ := DataW.trod_int Try.underlying36 h1
  obtain ⟨i, e2, _, b2⟩ := DataW.trod_int Try.underlying3 h2
  cases e0; cases e1; cases e2
  have b0 : -9223372036854775808 ≤ k ∧ k ≤ 9223372036854775807 := by simpa [Lit.wf, IntKind.min, IntKind.max, IntKind.signed, IntKind.bits] using b0
  have b1 : 0 ≤ g ∧ g ≤ 4294967295 := by simpa [Lit.wf, IntKind.min, IntKind.max, IntKind.signed, IntKind.bits] using b1
  have b2 : -9223372036854775808 ≤ i ∧ i ≤ 9223372036854775807 := by simpa [Lit.wf, IntKind.min, IntKind.max, IntKind.signed, IntKind.bits] using b2
  obtain ⟨l, hl, hll⟩ := open_b h3
  obtain ⟨q, hq, hql⟩ := open_t h4
  obtain ⟨g', rfl⟩ := Int.eq_ofNat_of_zero_le b1.1
  unfold maxLen at hll hql
  exact ⟨⟨k, g', i, l, q⟩, ⟨b0.1, b0.2, by show g' < 4294967296; omega, b2.1, b2.2, by show l.length ≤ _; omega, by show q.length ≤ _; omega⟩, rfl, rfl, rfl, hl, hq⟩

theorem cells_five {a : Addr} {cs' : List Value} (h : w.cells? base a 5 = some cs') : ∃ c0 c1 c2 c3 c4, cs' = [c0, c1, c2, c3, c4] ∧ w.cell? (a.add 0) = some c0 ∧ w.cell? (a.add 1) = some c1 ∧ w.cell? (a.add 2) = some c2 ∧ w.cell? (a.add 3) = some c3 ∧ w.cell? (a.add 4) = some c4 := by
  obtain ⟨_, hl, hat⟩ := World.cells?_some h
  match cs', hl with
  | [c0, c1, c2, c3, c4], _ => exact ⟨c0, c1, c2, c3, c4, rfl, hat 0 (by decide), hat 1 (by decide), hat 2 (by decide), hat 3 (by decide), hat 4 (by decide)⟩

theorem open_dds (h : DataW.trod enc Try.prog w base sp held fuel 24 [v] = some x) : ∃ l : List Dd, Dds w (Low w) v l ∧ l.length ≤ maxLen := by
  rcases open_slice Try.underlying24 h with ⟨hcs, _⟩ | ⟨a, len, cap, m, n, D, Pl, hcs, _, hl, hm, hmm, _, hx⟩
  · cases hcs
    exact ⟨[], ⟨none, 0, rfl, Nat.zero_le _, fun x hx => by simp at hx, fun h => absurd rfl h⟩, by simp⟩
  · cases hcs
    have hlm : len ≤ m := by rw [hmm]; split <;> omega
    have hx1 : ∀ i, i < len → ∃ X : Dd, X.Ok ∧ ∃ c0 c1 c2 c3 c4, w.cell? (a.add (i * 5)) = some c0 ∧ w.cell? (a.add (i * 5 + 1)) = some c1 ∧ w.cell? (a.add (i * 5 + 2)) = some c2 ∧ w.cell? (a.add (i * 5 + 3)) = some c3 ∧ w.cell? (a.add (i * 5 + 4)) = some c4 ∧ DdV w (Low w) c0 c1 c2 c3 c4 X := fun i hi => by
      obtain ⟨cs', hc, ht⟩ := hx i (by omega)
      rw [show Try.prog.cellsOf 40 = 5 by kernel_rfl] at hc
      obtain ⟨c0, c1, c2, c3, c4, rfl, g0, g1, g2, g3, g4⟩ := cells_five hc
      rw [S.add_add] at g0 g1 g2 g3 g4
      obtain ⟨X, hX, hV⟩ := open_deed5 ht
      exact ⟨X, hX, c0, c1, c2, c3, c4, g0, g1, g2, g3, g4, hV⟩
    obtain ⟨l, hll, hle⟩ := list_of len hx1
    subst hll
    refine ⟨l, ⟨some a, cap, rfl, hl, fun x hx => ?_, fun hne => ⟨a, rfl, ?_, fun i hi => (hle i hi).2⟩⟩, by omega⟩
    · obtain ⟨i, hi, rfl⟩ := List.getElem_of_mem hx
      exact (hle i hi).1
    · have h0 : 0 < l.length := List.length_pos_iff.2 hne
      obtain ⟨_, c0, _, _, _, _, g0, _⟩ := hle 0 h0
      have := World.block_lt_of_cell? w _ g0
      rwa [S.add_block] at this

theorem dds_of {d : DataW H} {p : List MemPlace} (hd : DataW.Trod enc Try.prog w base sp held 24 v d p) (hv : ∃ a n c, v = .slice a n c) : ∃ l : List Dd, Dds w (Low w) v l ∧ l.length ≤ maxLen := by
  obtain ⟨fuel, hf⟩ := hd
  rw [cells_slice hv] at hf
  exact open_dds hf
end

end Go.Proofs.Ytbjbnjpdackloaa.law
