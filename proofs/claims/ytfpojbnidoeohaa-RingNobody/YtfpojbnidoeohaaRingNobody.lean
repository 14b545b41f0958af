/-
  For all starts and all records: a ring that is nil has nothing; one beyond its disk, without sectors, or with wrong numbers, is none (the law RingNobody returns true). Conditions: none beyond the form's own reach.
-/
import Derived.Test.YtfpojbnidoeohaaLawKit
import Derived.Test.YtfpojbnidoeohaaRgKit
import Derived.Test.YtfpojbnidoeohaaRgNobodyW
import Derived.Test.YtfpojbnidoeohaaRgBoth
namespace Go.Proofs.Ytfpojbnidoeohaa.ringNobody
open Go.ChangeShapes Go.WideShapes Go.ChangeAt Go.RowKit
open Go.ChangeMaps (open_string shut_string)

set_option maxRecDepth 100000 in
theorem opened (H : Type) (enc : TypeId × Value → H) (W : World) (base : Nat) (args : Array Value) (ds gs : List (DataW H)) (before : List MemPlace)
    (hval : ∀ (j : Nat) t v, Try.f8.params[j]? = some t → args[j]? = some v → Value.okWide Try.prog W .any base t v)
    (hW : DataW.Whole enc Try.prog Try.f8.params.toList Rows.ringNobodySpec.vars false W args.toList ds gs before)
    (hsz : (DataW.weightsEach Try.prog (Try.f8.params.toList ++ Rows.ringNobodySpec.plain.varTypes Try.prog) (ds ++ gs)).all (· ≤ reachBytes) = true) :
    Calls Try.prog 8 args W fun e w' => e = .returned (.bool true) ∧ Below W.heap.size W w' := by
  obtain ⟨p, q, hA0, hV, rfl, _, _⟩ := hW
  have hA : DataW.TrodAll enc Try.prog W 0 (fun _ => true) true Try.f8.params.toList args.toList ds p := hA0
  rw [Try.params8] at hA hval hsz
  obtain ⟨v0, vs0, d0, ds0, p0, q0, hargs, rfl, rfl, h0, r0⟩ := trodAll_cons hA
  obtain ⟨v1, vs1, d1, ds1, p1, q1, rfl, rfl, rfl, h1, r1⟩ := trodAll_cons r0
  obtain ⟨rfl, rfl, rfl⟩ := trodAll_nil r1
  obtain rfl : args = #[v0, v1] := by cases args; simp_all
  obtain ⟨rfl, rfl⟩ := trodVars_none hV
  obtain ⟨f0, k0, e0, o0, n0, rfl, bf0, bk0, be0, bo0, bn0⟩ := law.open_start (hval 0 26 v0 rfl rfl) h0
  obtain ⟨l1, S1, m1⟩ := law.open_bytes h1 (okWide_slice Try.underlying44 (hval 1 44 v1 rfl rfl))
  exact nobody_any okD okF W f0 k0 (e0 : Int) (n0 : Int) o0 v1

set_option maxRecDepth 100000 in
theorem lifted (os : Os) (started : os.Started) (H : Type) (enc : TypeId × Value → H) :
    ReturnsInHanded {} Try.checked os 8 .any (Rows.ringNobodySpec.pre6 enc Try.prog Try.f8 Rows.ringNobodyRow.domain false) (Rows.ringNobodySpec.post enc Try.prog Try.f8 false true false false) := by
  refine returnsInHanded_of_change_sized (C := Try.checked) law.own started (by kernel_rfl) Try.func8
    (ChangeSpec.witness6 (enc := enc) (C := Try.checked) false ⟨#[], #[.agg #[.int .i64 0, .int .i64 0, .int .u32 0, .int .u32 0, .int .u32 0], .slice none 0 0], []⟩ 8 (by kernel_rfl) (by kernel_rfl) (by kernel_rfl) (by kernel_rfl)) ?_
  intro W base args ds gs before hval hW _ hsz _
  exact law.contract (f := Try.f8) rfl (by rw [Try.params8]; kernel_rfl) (by kernel_rfl) (fun es hes => by rw [Try.params8] at hes; match es, hes with | [_, _], _ => exact ⟨rfl, rfl, rfl⟩) hW (opened H enc W base args ds gs before hval hW hsz)

theorem proved : Rows.RingNobodySaid :=
  OpenClaim.holds_of_wide 8 Try.f8 rfl rfl rfl rfl rfl rfl rfl ⟨rfl, rfl, rfl, rfl, rfl⟩ rfl rfl rfl rfl rfl (by kernel_rfl) Try.func8 (by kernel_rfl)
    (of_decide_eq_true (by kernel_rfl)) (by unfold Func.isWrapper; first | (rw [if_pos (by decide +kernel)]; kernel_rfl) | (rw [if_neg (by decide +kernel)]; exact ⟨rfl, rfl⟩))
    (fun os started H enc _ => lifted os started H enc)

end Go.Proofs.Ytfpojbnidoeohaa.ringNobody
