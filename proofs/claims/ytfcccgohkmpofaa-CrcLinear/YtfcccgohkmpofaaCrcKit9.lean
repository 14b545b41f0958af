/-
  How an argument that is an array of nine bytes is opened.
-/
import Derived.Test.YtfcccgohkmpofaaCrcKit
import Derived.Test.YtfcccgohkmpofaaCrcLinearW
namespace Go.Proofs.Ytfcccgohkmpofaa.law
open Go.ChangeShapes Go.WideShapes Go.ChangeAt Go.RowKit

theorem cells9 : Try.prog.cellsOf 34 = 9 := by kernel_rfl

theorem bytes_of : ∀ (vs : List Value), (∀ v ∈ vs, ∃ z : Int, v = .int .u8 z ∧ (Lit.int .u8 z).wf = true) → ∃ l : List UInt8, vs = C.bytesV l
  | [], _ => ⟨[], rfl⟩
  | v :: vs, h => by
    obtain ⟨l, hl⟩ := bytes_of vs (fun u hu => h u (by simp [hu]))
    obtain ⟨z, rfl, hw⟩ := h v (by simp)
    have hb : 0 ≤ z ∧ z ≤ 255 := by simpa [Lit.wf, IntKind.min, IntKind.max, IntKind.signed, IntKind.bits] using hw
    refine ⟨UInt8.ofNat z.toNat :: l, ?_⟩
    simp only [C.bytesV, List.map_cons] at hl ⊢
    rw [hl]
    congr 2
    simp
    omega

theorem open_arr9 {H : Type} {enc : TypeId × Value → H} {w : World} {base b0 : Nat} {r : Reach} {sp : Nat → Bool} {held : Bool} {v : Value} {d : DataW H} {p : List MemPlace}
    (hval : Value.okWide Try.prog w r b0 34 v) (hd : DataW.Trod enc Try.prog w base sp held 34 v d p) : ∃ l : List UInt8, v = .agg (arr l) ∧ l.length = 9 := by
  simp only [Value.okWide, Try.underlying34] at hval
  obtain ⟨cs, rfl, hsz, _⟩ := hval
  rw [cells9] at hsz
  obtain ⟨fuel, hf⟩ := hd
  obtain ⟨xs, m, _, _, _, hxl, hxs⟩ := DataW.trod_array Try.underlying34 hf
  obtain ⟨l, hl⟩ := bytes_of cs.toList (fun u hu => by
    obtain ⟨i, hi, rfl⟩ := List.getElem_of_mem hu
    have hi9 : i < 9 := by simp at hi; omega
    have h := hxs i hi9
    rw [cells8] at h
    obtain ⟨x, hx⟩ : ∃ x, xs[i]? = some x := ⟨xs[i], List.getElem?_eq_getElem (by omega)⟩
    rw [hx] at h
    obtain ⟨z, hz, _, hw⟩ := DataW.trod_int Try.underlying5 h
    refine ⟨z, ?_, hw⟩
    simp only [Value.cells, Nat.mul_one] at hz
    have e : List.take 1 (List.drop i cs.toList) = [cs.toList[i]] := by
      rw [List.drop_eq_getElem_cons hi]; rfl
    rw [e] at hz
    simpa using hz)
  refine ⟨l, ?_, ?_⟩
  · rw [arr, ← hl]
  · have := congrArg List.length hl
    rw [C.bytesV_length] at this
    simp at this
    omega

end Go.Proofs.Ytfcccgohkmpofaa.law
