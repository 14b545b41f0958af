/-
  The law ValueOrder answers true for every input and leaves its arguments as they were. No condition.
-/
import Derived.Test.YtepgefjehnjibaaLawKit
import Derived.Test.YtepgefjehnjibaaValKit
import Derived.Test.YtepgefjehnjibaaValueOrderW
namespace Go.Proofs.Ytepgefjehnjibaa.valueOrder
open Go.ChangeShapes Go.WideShapes Go.ChangeAt Go.RowKit
open Go.ChangeMaps (open_string shut_string)

theorem cells2 : Try.prog.cellsOf 36 = 2 := by kernel_rfl
theorem cells1 : Try.prog.cellsOf 9 = 1 := by kernel_rfl

theorem opened (H : Type) (enc : TypeId × Value → H) (W : World) (base : Nat) (args : Array Value) (ds gs : List (DataW H)) (before : List MemPlace)
    (hval : ∀ (j : Nat) t v, Try.f6.params[j]? = some t → args[j]? = some v → Value.okWide Try.prog W .any base t v)
    (hW : DataW.Whole enc Try.prog Try.f6.params.toList Rows.valueOrderSpec.vars false W args.toList ds gs before)
    (hsz : (DataW.weightsEach Try.prog (Try.f6.params.toList ++ Rows.valueOrderSpec.plain.varTypes Try.prog) (ds ++ gs)).all (· ≤ reachBytes) = true) :
    Calls Try.prog 6 args W fun e w' => e = .returned (.bool true) ∧ Below W.heap.size W w' := by
  obtain ⟨p, q, hA0, hV, rfl, _, _⟩ := hW
  have hA : DataW.TrodAll enc Try.prog W 0 (fun _ => true) true Try.f6.params.toList args.toList ds p := hA0
  rw [Try.params6] at hA hval hsz
  obtain ⟨v0, vs0, d0, ds0, p0, q0, hargs, rfl, rfl, h0, r0⟩ := trodAll_cons hA
  obtain ⟨v1, vs1, d1, ds1, p1, q1, rfl, rfl, rfl, h1, r1⟩ := trodAll_cons r0
  obtain ⟨v2, vs2, d2, ds2, p2, q2, rfl, rfl, rfl, h2, r2⟩ := trodAll_cons r1
  obtain ⟨rfl, rfl, rfl⟩ := trodAll_nil r2
  obtain rfl : args = #[v0, v1, v2] := by cases args; simp_all
  obtain ⟨rfl, rfl⟩ := trodVars_none hV
  obtain ⟨t0, n0, a0, rfl, rfl, rfl, b0, c0⟩ := law.open_val (hval 0 23 v0 rfl rfl) h0
  obtain ⟨t1, n1, a1, rfl, rfl, rfl, b1, c1⟩ := law.open_val (hval 1 23 v1 rfl rfl) h1
  obtain ⟨a2, c2, rfl, rfl, rfl, w2, x2⟩ := law.open_str2 Try.underlying36 Try.underlying9 cells1 cells2 (hval 2 36 v2 rfl rfl) h2
  have s2 : a2.size ≤ 140737488351232 ∧ c2.size ≤ 140737488351232 := by
    have h := law.sized_str2 hsz (j := 2) rfl rfl
    simpa using h
  exact valueOrder_walk t0 n0 a0 t1 n1 a1 a2 c2 W c0.1 c0.2 c1.1 c1.2 s2.1 s2.2

set_option maxRecDepth 100000 in
theorem lifted (os : Os) (started : os.Started) (H : Type) (enc : TypeId × Value → H) :
    ReturnsInHanded {} Try.checked os 6 .any (Rows.valueOrderSpec.pre6 enc Try.prog Try.f6 Rows.valueOrderRow.domain false) (Rows.valueOrderSpec.post enc Try.prog Try.f6 false true false false) := by
  refine returnsInHanded_of_change_sized (C := Try.checked) law.own started (by kernel_rfl) Try.func6
    (ChangeSpec.witness6 (enc := enc) (C := Try.checked) false ⟨#[], #[.agg #[.int .i64 0, .int .i64 0, .string ByteArray.empty], .agg #[.int .i64 0, .int .i64 0, .string ByteArray.empty], .agg #[.string ByteArray.empty, .string ByteArray.empty]], []⟩ 8 (by kernel_rfl) (by kernel_rfl) (by kernel_rfl) (by kernel_rfl)) ?_
  intro W base args ds gs before hval hW _ hsz _
  exact law.contract (f := Try.f6) rfl (by rw [Try.params6]; kernel_rfl) (by kernel_rfl) (fun es hes => by rw [Try.params6] at hes; match es, hes with | [_, _, _], _ => exact ⟨rfl, rfl, rfl⟩) hW (opened H enc W base args ds gs before hval hW hsz)

theorem proved : Rows.ValueOrderSaid :=
  OpenClaim.holds_of_wide 6 Try.f6 rfl rfl rfl rfl rfl rfl rfl ⟨rfl, rfl, rfl, rfl, rfl⟩ rfl rfl rfl rfl rfl (by kernel_rfl) Try.func6 (by kernel_rfl)
    (of_decide_eq_true (by kernel_rfl)) (by unfold Func.isWrapper; first | (rw [if_pos (by decide +kernel)]; kernel_rfl) | (rw [if_neg (by decide +kernel)]; exact ⟨rfl, rfl⟩))
    (fun os started H enc _ => lifted os started H enc)

end Go.Proofs.Ytepgefjehnjibaa.valueOrder
