/-
  For all texts, and whatever stands behind them: of two texts that are unlike the lower one's string is the lower one; behind one text the rest counts (the law PackBehind returns true). Condition: what is read holds together at most 1048576 values and letters.
-/
import Derived.Test.YtkgdcomaphgjaaaLawKit
import Derived.Test.YtkgdcomaphgjaaaPackBehindW
import Derived.Test.YtkgdcomaphgjaaaBulk
namespace Go.Proofs.Ytkgdcomaphgjaaa.packBehind
open Go.ChangeShapes Go.WideShapes Go.ChangeAt Go.RowKit
open Go.ChangeMaps (open_string shut_string)

theorem cells2 : Try.prog.cellsOf 42 = 2 := by kernel_rfl
theorem cells1 : Try.prog.cellsOf 9 = 1 := by kernel_rfl

theorem opened (H : Type) (enc : TypeId × Value → H) (W : World) (base : Nat) (args : Array Value) (ds gs : List (DataW H)) (before : List MemPlace)
    (hval : ∀ (j : Nat) t v, Try.f8.params[j]? = some t → args[j]? = some v → Value.okWide Try.prog W .any base t v)
    (hW : DataW.Whole enc Try.prog Try.f8.params.toList Rows.packBehindSpec.vars false W args.toList ds gs before)
    (hk : Rows.uptoSmall H (ds ++ gs) = true) :
    Calls Try.prog 8 args W fun e w' => e = .returned (.bool true) ∧ Below W.heap.size W w' := by
  obtain ⟨p, q, hA0, hV, rfl, _, _⟩ := hW
  have hA : DataW.TrodAll enc Try.prog W 0 (fun _ => true) true Try.f8.params.toList args.toList ds p := hA0
  rw [Try.params8] at hA hval
  obtain ⟨v0, vs0, d0, ds0, p0, q0, hargs, rfl, rfl, h0, r0⟩ := trodAll_cons hA
  obtain ⟨v1, vs1, d1, ds1, p1, q1, rfl, rfl, rfl, h1, r1⟩ := trodAll_cons r0
  obtain ⟨rfl, rfl, rfl⟩ := trodAll_nil r1
  obtain rfl : args = #[v0, v1] := by cases args; simp_all
  obtain ⟨rfl, rfl⟩ := trodVars_none hV
  obtain ⟨a0, c0, rfl, rfl, rfl, w0, x0⟩ := law.open_str2 Try.underlying42 Try.underlying9 cells1 cells2 (hval 0 42 v0 rfl rfl) h0
  have s0 : a0.size + c0.size ≤ 1048576 := by
    have h := small.of_mem hk (d := .agg [.lit (.string a0.data.toList), .lit (.string c0.data.toList)]) (by simp)
    simp [Rows.uptoBulk, Rows.uptoBulkAll] at h
    omega
  obtain ⟨a1, c1, rfl, rfl, rfl, w1, x1⟩ := law.open_str2 Try.underlying42 Try.underlying9 cells1 cells2 (hval 1 42 v1 rfl rfl) h1
  have s1 : a1.size + c1.size ≤ 1048576 := by
    have h := small.of_mem hk (d := .agg [.lit (.string a1.data.toList), .lit (.string c1.data.toList)]) (by simp)
    simp [Rows.uptoBulk, Rows.uptoBulkAll] at h
    omega
  exact packBehind_walk a0 c0 a1 c1 W (by omega) (by omega) (by omega) (by omega)

set_option maxRecDepth 100000 in
theorem lifted (os : Os) (started : os.Started) (H : Type) (enc : TypeId × Value → H) (F : Stop.Interp) :
    ReturnsInHanded {} Try.checked os 8 .any ((Rows.OpenSpec.upto Rows.packBehindSpec).pre6 enc Try.prog Try.f8 Rows.packBehindUptoRow.domain false) (((Rows.OpenSpec.upto Rows.packBehindSpec).at F).post enc Try.prog Try.f8 false true false false) := by
  refine returnsInHanded_of_cond (C := Try.checked) (s := Rows.OpenSpec.upto Rows.packBehindSpec) (k := Rows.uptoSmall) rfl law.own started (by kernel_rfl) Try.func8
    (OpenSpec.witness (enc := enc) (C := Try.checked) (s := Rows.OpenSpec.upto Rows.packBehindSpec) (k := Rows.uptoSmall) rfl false ⟨#[], #[.agg #[.string ByteArray.empty, .string ByteArray.empty], .agg #[.string ByteArray.empty, .string ByteArray.empty]], []⟩ 8 (by kernel_rfl) (by kernel_rfl) (by kernel_rfl)
      (x := ([.agg [.lit (.string []), .lit (.string [])], .agg [.lit (.string []), .lit (.string [])]], [], [])) (by kernel_rfl) rfl (by kernel_rfl)) ?_
  intro W base args ds gs before hval hW _ hk _
  exact law.contract (f := Try.f8) rfl (by rw [Try.params8]; kernel_rfl) (by kernel_rfl) (fun es hes => by rw [Try.params8] at hes; match es, hes with | [_, _], _ => exact ⟨rfl, rfl, rfl⟩) hW (opened H enc W base args ds gs before hval hW hk)

theorem proved : Rows.PackBehindUptoSaid :=
  OpenClaim.holds_of_cond 8 Try.f8 rfl rfl rfl rfl rfl rfl rfl ⟨rfl, rfl, rfl, rfl, rfl⟩ rfl rfl rfl rfl rfl (by kernel_rfl) Try.func8 (by kernel_rfl)
    (of_decide_eq_true (by kernel_rfl)) (by unfold Func.isWrapper; first | (rw [if_pos (by decide +kernel)]; kernel_rfl) | (rw [if_neg (by decide +kernel)]; exact ⟨rfl, rfl⟩))
    (fun os started H enc _ F => lifted os started H enc F)

end Go.Proofs.Ytkgdcomaphgjaaa.packBehind
