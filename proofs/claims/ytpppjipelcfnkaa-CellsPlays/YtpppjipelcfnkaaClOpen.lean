/-
  How the arguments of layer cells' laws are opened: keys, deeds by value, slices of deeds, of pairs of bytes.
-/
import Derived.Test.YtpppjipelcfnkaaLawKit
import Derived.Test.YtpppjipelcfnkaaClDds
import Derived.Test.YtpppjipelcfnkaaClPr
import Derived.Deep.Slices
import Derived.Deep.Strs
import Derived.SizedLaws
namespace Go.Proofs.Ytpppjipelcfnkaa.law
open Go.ChangeShapes Go.WideShapes Go.ChangeAt Go.RowKit Go.Deep

abbrev Low (w : World) : Nat → Prop := fun b => b < w.heap.size

theorem list_of {α : Type} {p : Nat → α → Prop} (n : Nat) (h : ∀ i, i < n → ∃ c, p i c) : ∃ l : List α, l.length = n ∧ ∀ i (hi : i < l.length), p i l[i] := by
  induction n with
  | zero => exact ⟨[], rfl, fun i hi => by simp at hi⟩
  | succ k ih =>
    obtain ⟨l, h1, h2⟩ := ih (fun i hi => h i (by omega))
    obtain ⟨c, hc⟩ := h k (by omega)
    refine ⟨l ++ [c], by simp [h1], fun i hi => ?_⟩
    by_cases hik : i < l.length
    · rw [List.getElem_append_left hik]; exact h2 i hik
    · have : i = k := by simp at hi; omega
      subst this
      rw [List.getElem_append_right (by omega)]
      simpa using hc

section
variable {H : Type} {enc : TypeId × Value → H} {w : World} {base fuel : Nat} {sp : Nat → Bool} {held : Bool} {v : Value} {x : DataW H × List MemPlace}

theorem cells_slice (hv : ∃ a n c, v = .slice a n c) : v.cells.toList = [v] := by obtain ⟨a, n, c, rfl⟩ := hv; rfl

set_option maxRecDepth 100000 in
/-- a version's four cells -/
theorem open_ver {c0 c1 c2 c3 : Value} (h : DataW.trod enc Try.prog w base sp held fuel 76 [c0, c1, c2, c3] = some x) : ∃ X : Cn.Vr, [c0, c1, c2, c3] = verC X := by
  obtain ⟨y0, y1, y2, y3, n, _, _, h0, h1, h2, h3⟩ := Joins.trod_struct4 Try.underlying76 h
  have h0 : DataW.trod enc Try.prog w base sp held n 2 [c0] = some y0 := h0
  have h1 : DataW.trod enc Try.prog w base sp held n 2 [c1] = some y1 := h1
  have h2 : DataW.trod enc Try.prog w base sp held n 9 [c2] = some y2 := h2
  have h3 : DataW.trod enc Try.prog w base sp held n 4 [c3] = some y3 := h3
  obtain ⟨k, e0, _, _⟩ := DataW.trod_int Try.underlying2 h0
  obtain ⟨i, e1, _, _⟩ := DataW.trod_int Try.underlying2 h1
  obtain ⟨s, e2, _, _⟩ := DataW.trod_string Try.underlying9 h2
  obtain ⟨z, e3, _⟩ := DataW.trod_bool Try.underlying4 h3
  cases e0; cases e1; cases e2; cases e3
  exact ⟨⟨k, i, s, z⟩, rfl⟩

theorem cells_four {a : Addr} {cs' : List Value} (h : w.cells? base a 4 = some cs') : ∃ c0 c1 c2 c3, cs' = [c0, c1, c2, c3] ∧ w.cell? (a.add 0) = some c0 ∧ w.cell? (a.add 1) = some c1 ∧ w.cell? (a.add 2) = some c2 ∧ w.cell? (a.add 3) = some c3 := by
  obtain ⟨_, hl, hat⟩ := World.cells?_some h
  match cs', hl with
  | [c0, c1, c2, c3], _ => exact ⟨c0, c1, c2, c3, rfl, hat 0 (by decide), hat 1 (by decide), hat 2 (by decide), hat 3 (by decide)⟩

set_option maxRecDepth 100000 in
theorem open_vers (h : DataW.trod enc Try.prog w base sp held fuel 32 [v] = some x) : ∃ c : Cn.Ch, SlC w (Low w) v c ∧ c.length ≤ maxLen := by
  rcases open_slice Try.underlying32 h with ⟨hcs, _⟩ | ⟨a, len, cap, m, n, D, Pl, hcs, _, hl, hm, hmm, _, hx⟩
  · cases hcs
    exact ⟨[], S.Sg.nil .., by simp⟩
  · cases hcs
    have hlm : len ≤ m := by rw [hmm]; split <;> omega
    have hx1 : ∀ i, i < len → ∃ X : Cn.Vr, ∀ j, j < 4 → w.cell? (a.add (i * 4 + j)) = (verC X)[j]? := fun i hi => by
      obtain ⟨cs', hc, ht⟩ := hx i (by omega)
      rw [show Try.prog.cellsOf 76 = 4 by kernel_rfl] at hc
      obtain ⟨c0, c1, c2, c3, rfl, g0, g1, g2, g3⟩ := cells_four hc
      rw [S.add_add] at g0 g1 g2 g3
      obtain ⟨X, e⟩ := open_ver ht
      refine ⟨X, fun j hj => ?_⟩
      rw [← e]
      match j, hj with
      | 0, _ => exact g0
      | 1, _ => exact g1
      | 2, _ => exact g2
      | 3, _ => exact g3
    obtain ⟨l, hll, hle⟩ := list_of len hx1
    subst hll
    refine ⟨l, ⟨verV_length l, some a, cap, rfl, hl, fun hne => ⟨a, rfl, ?_, fun j u hj => ?_⟩⟩, by omega⟩
    · have h0 : 0 < l.length := by omega
      have g := hle 0 h0 0 (by decide)
      have := World.block_lt_of_cell? w _ (show w.cell? (a.add (0 * 4 + 0)) = some _ from g)
      rwa [S.add_block] at this
    · have hjl := (List.getElem?_eq_some_iff.1 hj).1
      rw [verV_length] at hjl
      have hi : j / 4 < l.length := by omega
      have hm4 : j % 4 < 4 := Nat.mod_lt _ (by decide)
      have e1 : j / 4 * 4 + j % 4 = j := by omega
      have g := hle (j / 4) hi (j % 4) hm4
      have f := V.flat_at (f := verC) (m := 4) l (fun _ _ => rfl) (j / 4) hi (j % 4) hm4
      rw [e1] at g f
      rw [g, ← f]
      exact hj

theorem array3 {T : Array Value} (h : T.size = 3) : ∃ a b c, T = #[a, b, c] := by
  obtain ⟨l⟩ := T
  match l, h with
  | [a, b, c], _ => exact ⟨a, b, c, rfl⟩

theorem trod_struct5 {P : Program} {t : TypeId} {f0 f1 f2 f3 f4 : Field} {cs : List Value} (ht : P.underlying t = some (.struct #[f0, f1, f2, f3, f4])) (h : DataW.trod enc P w base sp held fuel t cs = some x) :
    ∃ y0 y1 y2 y3 y4 n, cs.length = P.cellsOf t ∧ DataW.trod enc P w base sp held n f0.type ((cs.drop f0.offset).take (P.cellsOf f0.type)) = some y0 ∧
      DataW.trod enc P w base sp held n f1.type ((cs.drop f1.offset).take (P.cellsOf f1.type)) = some y1 ∧ DataW.trod enc P w base sp held n f2.type ((cs.drop f2.offset).take (P.cellsOf f2.type)) = some y2 ∧
      DataW.trod enc P w base sp held n f3.type ((cs.drop f3.offset).take (P.cellsOf f3.type)) = some y3 ∧ DataW.trod enc P w base sp held n f4.type ((cs.drop f4.offset).take (P.cellsOf f4.type)) = some y4 := by
  obtain ⟨xs, n, _, rfl, hl, hlen, hf⟩ := DataW.trod_struct ht h
  match xs, hlen with
  | [y0, y1, y2, y3, y4], _ => exact ⟨y0, y1, y2, y3, y4, n, hl, by simpa using hf 0 f0 rfl, by simpa using hf 1 f1 rfl, by simpa using hf 2 f2 rfl, by simpa using hf 3 f3 rfl, by simpa using hf 4 f4 rfl⟩

set_option maxRecDepth 100000 in
/-- a key's three cells -/
theorem open_key3 {c0 c1 c2 : Value} (h : DataW.trod enc Try.prog w base sp held fuel 31 [c0, c1, c2] = some x) : ∃ k : Cl.Ky, c0 = .int .i64 k.kind ∧ c1 = .int .i64 k.a ∧ c2 = .int .i64 k.b := by
  obtain ⟨y0, y1, y2, n, _, _, h0, h1, h2⟩ := trod_struct3 Try.underlying31 h
  have h0 : DataW.trod enc Try.prog w base sp held n 3 [c0] = some y0 := h0
  have h1 : DataW.trod enc Try.prog w base sp held n 3 [c1] = some y1 := h1
  have h2 : DataW.trod enc Try.prog w base sp held n 3 [c2] = some y2 := h2
  obtain ⟨k, e0, _, _⟩ := DataW.trod_int Try.underlying3 h0
  obtain ⟨i, e1, _, _⟩ := DataW.trod_int Try.underlying3 h1
  obtain ⟨j, e2, _, _⟩ := DataW.trod_int Try.underlying3 h2
  cases e0; cases e1; cases e2
  exact ⟨⟨k, i, j⟩, rfl, rfl, rfl⟩
set_option maxRecDepth 100000 in
theorem open_key {b0 : Nat} {r : Reach} {d : DataW H} {p : List MemPlace} (hval : Value.okWide Try.prog w r b0 31 v) (hd : DataW.Trod enc Try.prog w base sp held 31 v d p) : ∃ k : Cl.Ky, v = keyA k := by
  obtain ⟨cs, rfl, hsz⟩ := okWide_struct Try.underlying31 hval
  obtain ⟨c0, c1, c2, rfl⟩ := array3 (hsz.trans (show Try.prog.cellsOf 31 = 3 by kernel_rfl))
  obtain ⟨fuel, hf⟩ := hd
  obtain ⟨k, rfl, rfl, rfl⟩ := open_key3 hf
  exact ⟨k, rfl⟩

set_option maxRecDepth 100000 in
/-- a deed's seven cells -/
theorem open_deed7 {c0 c1 c2 c3 c4 c5 c6 : Value} (h : DataW.trod enc Try.prog w base sp held fuel 34 [c0, c1, c2, c3, c4, c5, c6] = some x) : ∃ X : Dd11, X.Ok ∧ c0 = .int .i64 X.kind ∧ c1 = .int .i64 X.k.kind ∧ c2 = .int .i64 X.k.a ∧ c3 = .int .i64 X.k.b ∧ c4 = .int .i64 X.ts ∧ c5 = .string X.val ∧ SlC w (Low w) c6 X.l := by
  obtain ⟨y0, y1, y2, y3, y4, n, _, h0, h1, h2, h3, h4⟩ := trod_struct5 Try.underlying34 h
  have h0 : DataW.trod enc Try.prog w base sp held n 3 [c0] = some y0 := h0
  have h1 : DataW.trod enc Try.prog w base sp held n 31 [c1, c2, c3] = some y1 := h1
  have h2 : DataW.trod enc Try.prog w base sp held n 2 [c4] = some y2 := h2
  have h3 : DataW.trod enc Try.prog w base sp held n 9 [c5] = some y3 := h3
  have h4 : DataW.trod enc Try.prog w base sp held n 32 [c6] = some y4 := h4
  obtain ⟨k, e0, _, b0⟩ := DataW.trod_int Try.underlying3 h0
  obtain ⟨kk, rfl, rfl, rfl⟩ := open_key3 h1
  obtain ⟨i, e2, _, b2⟩ := DataW.trod_int Try.underlying2 h2
  obtain ⟨s, e3, _, _⟩ := DataW.trod_string Try.underlying9 h3
  obtain ⟨l, hl, _⟩ := open_vers h4
  cases e0; cases e2; cases e3
  have b0 : -9223372036854775808 ≤ k ∧ k ≤ 9223372036854775807 := by simpa [Lit.wf, IntKind.min, IntKind.max, IntKind.signed, IntKind.bits] using b0
  have b2 : -9223372036854775808 ≤ i ∧ i ≤ 9223372036854775807 := by simpa [Lit.wf, IntKind.min, IntKind.max, IntKind.signed, IntKind.bits] using b2
  exact ⟨⟨k, kk, i, s, l⟩, ⟨b0.1, b0.2, b2.1, b2.2⟩, rfl, rfl, rfl, rfl, rfl, rfl, hl⟩

theorem cells_seven {a : Addr} {cs' : List Value} (h : w.cells? base a 7 = some cs') : ∃ c0 c1 c2 c3 c4 c5 c6, cs' = [c0, c1, c2, c3, c4, c5, c6] ∧ w.cell? (a.add 0) = some c0 ∧ w.cell? (a.add 1) = some c1 ∧ w.cell? (a.add 2) = some c2 ∧ w.cell? (a.add 3) = some c3 ∧ w.cell? (a.add 4) = some c4 ∧ w.cell? (a.add 5) = some c5 ∧ w.cell? (a.add 6) = some c6 := by
  obtain ⟨_, hl, hat⟩ := World.cells?_some h
  match cs', hl with
  | [c0, c1, c2, c3, c4, c5, c6], _ => exact ⟨c0, c1, c2, c3, c4, c5, c6, rfl, hat 0 (by decide), hat 1 (by decide), hat 2 (by decide), hat 3 (by decide), hat 4 (by decide), hat 5 (by decide), hat 6 (by decide)⟩

set_option maxRecDepth 100000 in
theorem open_dds11 (h : DataW.trod enc Try.prog w base sp held fuel 22 [v] = some x) : ∃ l : List Dd11, Dds11 w (Low w) v l ∧ l.length ≤ maxLen := by
  rcases open_slice Try.underlying22 h with ⟨hcs, _⟩ | ⟨a, len, cap, m, n, D, Pl, hcs, _, hl, hm, hmm, _, hx⟩
  · cases hcs
    exact ⟨[], ⟨none, 0, rfl, Nat.zero_le _, fun x hx => by simp at hx, fun h => absurd rfl h⟩, by simp⟩
  · cases hcs
    have hlm : len ≤ m := by rw [hmm]; split <;> omega
    have e : ∀ (q : Addr) (j : Nat), (⟨q.block, q.off + (j + 1), none⟩ : Addr) = q.add (j + 1) := fun q j => by simp [Addr.add]
    have hx1 : ∀ i, i < len → ∃ X : Dd11, X.Ok ∧ Dc11 w (Low w) (a.add (i * 7)) X := fun i hi => by
      obtain ⟨cs', hc, ht⟩ := hx i (by omega)
      rw [show Try.prog.cellsOf 34 = 7 by kernel_rfl] at hc
      obtain ⟨c0, c1, c2, c3, c4, c5, c6, rfl, q0, q1, q2, q3, q4, q5, q6⟩ := cells_seven hc
      obtain ⟨X, hX, rfl, rfl, rfl, rfl, rfl, rfl, hs⟩ := open_deed7 ht
      refine ⟨X, hX, ⟨?_, by rw [e _ 0]; exact q1, by rw [e _ 1]; exact q2, by rw [e _ 2]; exact q3, by rw [e _ 3]; exact q4, by rw [e _ 4]; exact q5, c6, by rw [e _ 5]; exact q6, hs⟩⟩
      rw [S.add_add] at q0
      exact q0
    obtain ⟨l, hll, hle⟩ := list_of len hx1
    subst hll
    refine ⟨l, ⟨some a, cap, rfl, hl, fun x hx => ?_, fun hne => ⟨a, rfl, ?_, fun i hi => (hle i hi).2⟩⟩, by omega⟩
    · obtain ⟨i, hi, rfl⟩ := List.getElem_of_mem hx
      exact (hle i hi).1
    · have h0 : 0 < l.length := List.length_pos_iff.2 hne
      have := World.block_lt_of_cell? w _ (hle 0 h0).2.c0
      rwa [S.add_block] at this

set_option maxRecDepth 100000 in
theorem dds_of {d : DataW H} {p : List MemPlace} (hd : DataW.Trod enc Try.prog w base sp held 22 v d p) (hv : ∃ a n c, v = .slice a n c) : ∃ l : List Dd11, Dds11 w (Low w) v l ∧ l.length ≤ maxLen := by
  obtain ⟨fuel, hf⟩ := hd
  rw [cells_slice hv] at hf
  exact open_dds11 hf

theorem array7 {T : Array Value} (h : T.size = 7) : ∃ a b c d e f g, T = #[a, b, c, d, e, f, g] := by
  obtain ⟨l⟩ := T
  match l, h with
  | [a, b, c, d, e, f, g], _ => exact ⟨a, b, c, d, e, f, g, rfl⟩

set_option maxRecDepth 100000 in
/-- a deed by value -/
theorem open_deedv {b0 : Nat} {r : Reach} {d : DataW H} {p : List MemPlace} (hval : Value.okWide Try.prog w r b0 34 v) (hd : DataW.Trod enc Try.prog w base sp held 34 v d p) :
    ∃ (X : Dd11) (vl : Value), X.Ok ∧ v = .agg #[.int .i64 X.kind, .int .i64 X.k.kind, .int .i64 X.k.a, .int .i64 X.k.b, .int .i64 X.ts, .string X.val, vl] ∧ SlC w (Low w) vl X.l := by
  obtain ⟨cs, rfl, hsz⟩ := okWide_struct Try.underlying34 hval
  obtain ⟨c0, c1, c2, c3, c4, c5, c6, rfl⟩ := array7 (hsz.trans (show Try.prog.cellsOf 34 = 7 by kernel_rfl))
  obtain ⟨fuel, hf⟩ := hd
  obtain ⟨X, hX, rfl, rfl, rfl, rfl, rfl, rfl, hs⟩ := open_deed7 hf
  exact ⟨X, c6, hX, rfl, hs⟩

theorem cells_two {a : Addr} {cs' : List Value} (h : w.cells? base a 2 = some cs') : ∃ c0 c1, cs' = [c0, c1] ∧ w.cell? (a.add 0) = some c0 ∧ w.cell? (a.add 1) = some c1 := by
  obtain ⟨_, hl, hat⟩ := World.cells?_some h
  match cs', hl with
  | [c0, c1], _ => exact ⟨c0, c1, rfl, hat 0 (by decide), hat 1 (by decide)⟩
set_option maxRecDepth 100000 in
theorem bytes_of {n : Nat} {t : TypeId} {cs : List Value} (ht : Try.prog.underlying t = some (.array n 5)) (h : DataW.trod enc Try.prog w base sp held fuel t cs = some x) (hl : cs.length = n) : ∃ l : List UInt8, cs = bytesV l ∧ l.length = n := by
  obtain ⟨xs, m, _, _, _, hxl, hxs⟩ := DataW.trod_array ht h
  have hx1 : ∀ i, i < n → ∃ c : UInt8, cs[i]? = some (.int .u8 (c.toNat : Int)) := fun i hi => by
    have h := hxs i hi
    rw [show Try.prog.cellsOf 5 = 1 by kernel_rfl, Nat.mul_one] at h
    obtain ⟨y, hy⟩ : ∃ y, xs[i]? = some y := ⟨xs[i], List.getElem?_eq_getElem (by omega)⟩
    rw [hy] at h
    obtain ⟨z, hz, _, hw⟩ := DataW.trod_int Try.underlying5 h
    have hb : 0 ≤ z ∧ z ≤ 255 := by simpa [Lit.wf, IntKind.min, IntKind.max, IntKind.signed, IntKind.bits] using hw
    have e : List.take 1 (List.drop i cs) = [cs[i]'(by omega)] := by
      rw [List.drop_eq_getElem_cons (by omega)]; rfl
    rw [e] at hz
    simp only [List.cons.injEq, and_true] at hz
    refine ⟨UInt8.ofNat z.toNat, ?_⟩
    rw [List.getElem?_eq_getElem (by omega), hz]
    congr 2
    simp
    omega
  obtain ⟨l, hll, hle⟩ := list_of n hx1
  refine ⟨l, List.ext_getElem? (fun i => ?_), hll⟩
  by_cases hi : i < l.length
  · rw [hle i hi, bytesV_at l i hi]
  · rw [List.getElem?_eq_none (by omega), List.getElem?_eq_none (by rw [bytesV_length]; omega)]

set_option maxRecDepth 100000 in
theorem open_prs (h : DataW.trod enc Try.prog w base sp held fuel 56 [v] = some x) : ∃ l : List (UInt8 × UInt8), Prs w (Low w) v l ∧ l.length ≤ maxLen := by
  rcases open_slice Try.underlying56 h with ⟨hcs, _⟩ | ⟨a, len, cap, m, n, D, Pl, hcs, _, hl, hm, hmm, _, hx⟩
  · cases hcs
    exact ⟨[], S.Sg.nil .., by simp⟩
  · cases hcs
    have hlm : len ≤ m := by rw [hmm]; split <;> omega
    have hx1 : ∀ i, i < len → ∃ X : UInt8 × UInt8, ∀ j, j < 2 → w.cell? (a.add (i * 2 + j)) = (prC X)[j]? := fun i hi => by
      obtain ⟨cs', hc, ht⟩ := hx i (by omega)
      rw [show Try.prog.cellsOf 60 = 2 by kernel_rfl] at hc
      obtain ⟨c0, c1, rfl, g0, g1⟩ := cells_two hc
      rw [S.add_add] at g0 g1
      obtain ⟨l, e, hl2⟩ := bytes_of Try.underlying60 ht rfl
      match l, hl2 with
      | [p, q], _ =>
        have e : [c0, c1] = [.int .u8 (p.toNat : Int), .int .u8 (q.toNat : Int)] := e
        cases e
        refine ⟨(p, q), fun j hj => ?_⟩
        match j, hj with
        | 0, _ => exact g0
        | 1, _ => exact g1
    obtain ⟨l, hll, hle⟩ := list_of len hx1
    subst hll
    have hfl : (l.flatMap prC).length = l.length * 2 := V.flat_len l (fun _ _ => rfl)
    refine ⟨l, ⟨hfl, some a, cap, rfl, hl, fun hne => ⟨a, rfl, ?_, fun j u hj => ?_⟩⟩, by omega⟩
    · have h0 : 0 < l.length := by omega
      have g := hle 0 h0 0 (by decide)
      have := World.block_lt_of_cell? w _ (show w.cell? (a.add (0 * 2 + 0)) = some _ from g)
      rwa [S.add_block] at this
    · have hjl := (List.getElem?_eq_some_iff.1 hj).1
      rw [hfl] at hjl
      have hi : j / 2 < l.length := by omega
      have hm4 : j % 2 < 2 := Nat.mod_lt _ (by decide)
      have e1 : j / 2 * 2 + j % 2 = j := by omega
      have g := hle (j / 2) hi (j % 2) hm4
      have f := V.flat_at (f := prC) (m := 2) l (fun _ _ => rfl) (j / 2) hi (j % 2) hm4
      rw [e1] at g f
      rw [g, ← f]
      exact hj

set_option maxRecDepth 100000 in
theorem prs_of {d : DataW H} {p : List MemPlace} (hd : DataW.Trod enc Try.prog w base sp held 56 v d p) (hv : ∃ a n c, v = .slice a n c) : ∃ l : List (UInt8 × UInt8), Prs w (Low w) v l ∧ l.length ≤ maxLen := by
  obtain ⟨fuel, hf⟩ := hd
  rw [cells_slice hv] at hf
  exact open_prs hf

end

end Go.Proofs.Ytpppjipelcfnkaa.law
