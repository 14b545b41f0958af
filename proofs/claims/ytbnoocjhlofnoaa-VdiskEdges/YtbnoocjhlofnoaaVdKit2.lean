/-
  How the arguments of layer vdisk's laws are opened: arrays of bytes by value, slices of them, a deed by value.
-/
import Derived.Test.YtbnoocjhlofnoaaVdKit
namespace Go.Proofs.Ytbnoocjhlofnoaa.law
open Go.ChangeShapes Go.WideShapes Go.ChangeAt Go.RowKit Go.Deep

section
variable {H : Type} {enc : TypeId × Value → H} {w : World} {base fuel : Nat} {sp : Nat → Bool} {held : Bool} {v : Value} {x : DataW H × List MemPlace}

theorem bytes_of {n : Nat} {t : TypeId} {cs : List Value} (ht : Try.prog.underlying t = some (.array n 5)) (h : DataW.trod enc Try.prog w base sp held fuel t cs = some x) (hl : cs.length = n) : ∃ l : List UInt8, cs = bytesV l ∧ l.length = n := by
  obtain ⟨xs, m, _, _, _, hxl, hxs⟩ := DataW.trod_array ht h
  have hx1 : ∀ i, i < n → ∃ c : UInt8, cs[i]? = some (.int .u8 (c.toNat : Int)) := fun i hi => by
    have h := hxs i hi
    rw [show Try.prog.cellsOf 5 = 1 by kernel_rfl, Nat.mul_one] at h
    obtain ⟨y, hy⟩ : ∃ y, xs[i]? = some y := ⟨xs[i], List.getElem?_eq_getElem (by omega)⟩
    rw [hy] at h
    obtain ⟨z, hz, _, hw⟩ := DataW.trod_int Try.underlying5 h
    have hb : 0 ≤ z ∧ z ≤ 255 := by simpa [Lit.wf, IntKind.min, IntKind.max, IntKind.signed, IntKind.bits] using hw
    have e : List.take 1 (List.drop i cs) = [cs[i]'(by omega)] := by
      rw [List.drop_eq_getElem_cons (by omega)]; rfl
    rw [e] at hz
    simp only [List.cons.injEq, and_true] at hz
    refine ⟨UInt8.ofNat z.toNat, ?_⟩
    rw [List.getElem?_eq_getElem (by omega), hz]
    congr 2
    simp
    omega
  obtain ⟨l, hll, hle⟩ := list_of n hx1
  refine ⟨l, List.ext_getElem? (fun i => ?_), hll⟩
  by_cases hi : i < l.length
  · rw [hle i hi, bytesV_at l i hi]
  · rw [List.getElem?_eq_none (by omega), List.getElem?_eq_none (by rw [bytesV_length]; omega)]

theorem open_arr {n : Nat} {t : TypeId} {b0 : Nat} {r : Reach} {d : DataW H} {p : List MemPlace} (ht : Try.prog.underlying t = some (.array n 5)) (hct : Try.prog.cellsOf t = n) (hval : Value.okWide Try.prog w r b0 t v) (hd : DataW.Trod enc Try.prog w base sp held t v d p) : ∃ l : List UInt8, v = .agg (arr l) ∧ l.length = n := by
  simp only [Value.okWide, ht] at hval
  obtain ⟨cs, rfl, hsz, _⟩ := hval
  rw [hct] at hsz
  obtain ⟨fuel, hf⟩ := hd
  obtain ⟨l, hl, hn⟩ := bytes_of ht hf (by simpa [Value.cells] using hsz)
  refine ⟨l, ?_, hn⟩
  rw [arr, ← hl]
  rfl

theorem open_arrs (h : DataW.trod enc Try.prog w base sp held fuel 51 [v] = some x) : ∃ bs : List (List UInt8), Arrs w (Low w) v bs ∧ bs.length ≤ maxLen := by
  rcases open_slice Try.underlying51 h with ⟨hcs, _⟩ | ⟨a, len, cap, m, n, D, Pl, hcs, _, hl, hm, hmm, _, hx⟩
  · cases hcs
    exact ⟨[], ⟨fun x hx => by simp at hx, none, 0, rfl, Nat.zero_le _, fun h => absurd rfl h⟩, by simp⟩
  · cases hcs
    have hlm : len ≤ m := by rw [hmm]; split <;> omega
    have hx1 : ∀ i, i < len → ∃ b : List UInt8, b.length = 9 ∧ ∀ j (hj : j < b.length), w.cell? (a.add (i * 9 + j)) = some (.int .u8 (b[j].toNat : Int)) := fun i hi => by
      obtain ⟨cs', hc, ht⟩ := hx i (by omega)
      rw [show Try.prog.cellsOf 45 = 9 by kernel_rfl] at hc
      obtain ⟨_, hl9, hat⟩ := World.cells?_some hc
      obtain ⟨b, rfl, hb⟩ := bytes_of Try.underlying45 ht hl9
      refine ⟨b, hb, fun j hj => ?_⟩
      rw [← S.add_add, hat j (by omega), bytesV_at b j hj]
    obtain ⟨bs, hll, hle⟩ := list_of len hx1
    subst hll
    refine ⟨bs, ⟨fun x hx => ?_, some a, cap, rfl, hl, fun hne => ⟨a, rfl, ?_, fun i hi => (hle i hi).2⟩⟩, by omega⟩
    · obtain ⟨i, hi, rfl⟩ := List.getElem_of_mem hx
      exact (hle i hi).1
    · have h0 : 0 < bs.length := List.length_pos_iff.2 hne
      obtain ⟨g1, g2⟩ := hle 0 h0
      have := World.block_lt_of_cell? w _ (g2 0 (by omega))
      rwa [S.add_block] at this

theorem cells_slice (hv : ∃ a n c, v = .slice a n c) : v.cells.toList = [v] := by obtain ⟨a, n, c, rfl⟩ := hv; rfl

theorem deeds_of {d : DataW H} {p : List MemPlace} (hd : DataW.Trod enc Try.prog w base sp held 22 v d p) (hv : ∃ a n c, v = .slice a n c) : ∃ l : List Deed, Deeds w (Low w) v l ∧ l.length ≤ maxLen := by
  obtain ⟨fuel, hf⟩ := hd
  rw [cells_slice hv] at hf
  exact open_deeds hf
theorem arrs_of {d : DataW H} {p : List MemPlace} (hd : DataW.Trod enc Try.prog w base sp held 51 v d p) (hv : ∃ a n c, v = .slice a n c) : ∃ bs : List (List UInt8), Arrs w (Low w) v bs ∧ bs.length ≤ maxLen := by
  obtain ⟨fuel, hf⟩ := hd
  rw [cells_slice hv] at hf
  exact open_arrs hf
theorem bools_of {d : DataW H} {p : List MemPlace} (hd : DataW.Trod enc Try.prog w base sp held 35 v d p) (hv : ∃ a n c, v = .slice a n c) : ∃ l : List Bool, SlT w (Low w) v l ∧ l.length ≤ maxLen := by
  obtain ⟨fuel, hf⟩ := hd
  rw [cells_slice hv] at hf
  exact open_t hf

theorem open_deedv {b0 : Nat} {r : Reach} {d : DataW H} {p : List MemPlace} (hval : Value.okWide Try.prog w r b0 37 v) (hd : DataW.Trod enc Try.prog w base sp held 37 v d p) : ∃ c0 c1 c2 c3 X, v = .agg #[c0, c1, c2, c3] ∧ X.Ok ∧ DeedV w (Low w) c0 c1 c2 c3 X := by
  obtain ⟨cs, rfl, hsz⟩ := okWide_struct Try.underlying37 hval
  obtain ⟨c0, c1, c2, c3, rfl⟩ := Joins.array4 (hsz.trans (show Try.prog.cellsOf 37 = 4 by kernel_rfl))
  obtain ⟨fuel, hf⟩ := hd
  obtain ⟨X, hX, hV⟩ := open_deed4 hf
  exact ⟨c0, c1, c2, c3, X, rfl, hX, hV⟩
end

end Go.Proofs.Ytbnoocjhlofnoaa.law
