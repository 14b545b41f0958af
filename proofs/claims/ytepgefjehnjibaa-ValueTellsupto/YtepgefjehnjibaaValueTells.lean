/-
  The law ValueTells answers true for every input that holds together at most 1048576 values and letters, and leaves its arguments as they were.
-/
import Derived.Test.YtepgefjehnjibaaLawKit
import Derived.Test.YtepgefjehnjibaaValKit
import Derived.Test.YtepgefjehnjibaaValueTellsW
import Derived.Test.YtepgefjehnjibaaBulk
namespace Go.Proofs.Ytepgefjehnjibaa.valueTells
open Go.ChangeShapes Go.WideShapes Go.ChangeAt Go.RowKit
open Go.ChangeMaps (open_string shut_string)

theorem opened (H : Type) (enc : TypeId × Value → H) (W : World) (base : Nat) (args : Array Value) (ds gs : List (DataW H)) (before : List MemPlace)
    (hval : ∀ (j : Nat) t v, Try.f3.params[j]? = some t → args[j]? = some v → Value.okWide Try.prog W .any base t v)
    (hW : DataW.Whole enc Try.prog Try.f3.params.toList Rows.valueTellsSpec.vars false W args.toList ds gs before)
    (hk : Rows.uptoSmall H (ds ++ gs) = true) :
    Calls Try.prog 3 args W fun e w' => e = .returned (.bool true) ∧ Below W.heap.size W w' := by
  obtain ⟨p, q, hA0, hV, rfl, _, _⟩ := hW
  have hA : DataW.TrodAll enc Try.prog W 0 (fun _ => true) true Try.f3.params.toList args.toList ds p := hA0
  rw [Try.params3] at hA hval
  obtain ⟨v0, vs0, d0, ds0, p0, q0, hargs, rfl, rfl, h0, r0⟩ := trodAll_cons hA
  obtain ⟨v1, vs1, d1, ds1, p1, q1, rfl, rfl, rfl, h1, r1⟩ := trodAll_cons r0
  obtain ⟨rfl, rfl, rfl⟩ := trodAll_nil r1
  obtain rfl : args = #[v0, v1] := by cases args; simp_all
  obtain ⟨rfl, rfl⟩ := trodVars_none hV
  obtain ⟨t0, n0, a0, rfl, rfl, rfl, b0, c0⟩ := law.open_val (hval 0 23 v0 rfl rfl) h0
  have s0 : a0.size ≤ 1048576 := by
    have h := small.of_mem hk (d := .agg [.lit (.int .i64 t0), .lit (.int .i64 n0), .lit (.string a0.data.toList)]) (by simp)
    simp [Rows.uptoBulk, Rows.uptoBulkAll] at h
    omega
  obtain ⟨t1, n1, a1, rfl, rfl, rfl, b1, c1⟩ := law.open_val (hval 1 23 v1 rfl rfl) h1
  have s1 : a1.size ≤ 1048576 := by
    have h := small.of_mem hk (d := .agg [.lit (.int .i64 t1), .lit (.int .i64 n1), .lit (.string a1.data.toList)]) (by simp)
    simp [Rows.uptoBulk, Rows.uptoBulkAll] at h
    omega
  exact valueTells_walk t0 n0 a0 t1 n1 a1 W c0.1 c0.2 s0

set_option maxRecDepth 100000 in
theorem lifted (os : Os) (started : os.Started) (H : Type) (enc : TypeId × Value → H) (F : Stop.Interp) :
    ReturnsInHanded {} Try.checked os 3 .any ((Rows.OpenSpec.upto Rows.valueTellsSpec).pre6 enc Try.prog Try.f3 Rows.valueTellsUptoRow.domain false) (((Rows.OpenSpec.upto Rows.valueTellsSpec).at F).post enc Try.prog Try.f3 false true false false) := by
  refine returnsInHanded_of_cond (C := Try.checked) (s := Rows.OpenSpec.upto Rows.valueTellsSpec) (k := Rows.uptoSmall) rfl law.own started (by kernel_rfl) Try.func3
    (OpenSpec.witness (enc := enc) (C := Try.checked) (s := Rows.OpenSpec.upto Rows.valueTellsSpec) (k := Rows.uptoSmall) rfl false ⟨#[], #[.agg #[.int .i64 0, .int .i64 0, .string ByteArray.empty], .agg #[.int .i64 0, .int .i64 0, .string ByteArray.empty]], []⟩ 8 (by kernel_rfl) (by kernel_rfl) (by kernel_rfl)
      (x := ([.agg [.lit (.int .i64 0), .lit (.int .i64 0), .lit (.string [])], .agg [.lit (.int .i64 0), .lit (.int .i64 0), .lit (.string [])]], [], [])) (by kernel_rfl) rfl (by kernel_rfl)) ?_
  intro W base args ds gs before hval hW _ hk _
  exact law.contract (f := Try.f3) rfl (by rw [Try.params3]; kernel_rfl) (by kernel_rfl) (fun es hes => by rw [Try.params3] at hes; match es, hes with | [_, _], _ => exact ⟨rfl, rfl, rfl⟩) hW (opened H enc W base args ds gs before hval hW hk)

theorem proved : Rows.ValueTellsUptoSaid :=
  OpenClaim.holds_of_cond 3 Try.f3 rfl rfl rfl rfl rfl rfl rfl ⟨rfl, rfl, rfl, rfl, rfl⟩ rfl rfl rfl rfl rfl (by kernel_rfl) Try.func3 (by kernel_rfl)
    (of_decide_eq_true (by kernel_rfl)) (by unfold Func.isWrapper; first | (rw [if_pos (by decide +kernel)]; kernel_rfl) | (rw [if_neg (by decide +kernel)]; exact ⟨rfl, rfl⟩))
    (fun os started H enc _ F => lifted os started H enc F)

end Go.Proofs.Ytepgefjehnjibaa.valueTells
