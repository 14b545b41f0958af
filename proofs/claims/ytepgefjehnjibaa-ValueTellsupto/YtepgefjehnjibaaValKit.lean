/-
  How an argument that is a value (a struct of two numbers and a string) is opened; how great each string of an array of two may be.
-/
import Derived.Test.YtepgefjehnjibaaLawKit
namespace Go.Proofs.Ytepgefjehnjibaa.law
open Go.ChangeShapes Go.WideShapes Go.ChangeAt Go.RowKit

theorem cells23 : Try.prog.cellsOf 23 = 3 := by kernel_rfl

theorem open_val {H : Type} {enc : TypeId × Value → H} {w : World} {base b0 : Nat} {r : Reach} {sp : Nat → Bool} {held : Bool} {v : Value} {d : DataW H} {p : List MemPlace}
    (hval : Value.okWide Try.prog w r b0 23 v) (hd : DataW.Trod enc Try.prog w base sp held 23 v d p) :
    ∃ (t n : Int) (s : ByteArray), v = .agg #[.int .i64 t, .int .i64 n, .string s] ∧ d = .agg [.lit (.int .i64 t), .lit (.int .i64 n), .lit (.string s.data.toList)] ∧ p = [] ∧
      (-9223372036854775808 ≤ t ∧ t ≤ 9223372036854775807) ∧ (-9223372036854775808 ≤ n ∧ n ≤ 9223372036854775807) := by
  obtain ⟨v0, v1, v2, y0, y1, y2, m, rfl, rfl, rfl, h0, h1, h2⟩ := Joins.open_agg3 Try.underlying23 (by kernel_rfl) cells23 hval hd
  obtain ⟨t, e0, rfl, b0⟩ := DataW.trod_int Try.underlying3 h0
  obtain ⟨n, e1, rfl, b1⟩ := DataW.trod_int Try.underlying2 h1
  obtain ⟨s, e2, rfl, _⟩ := DataW.trod_string Try.underlying9 h2
  cases e0; cases e1; cases e2
  exact ⟨t, n, s, rfl, rfl, rfl, by simpa [Lit.wf, IntKind.min, IntKind.max, IntKind.signed, IntKind.bits] using b0, by simpa [Lit.wf, IntKind.min, IntKind.max, IntKind.signed, IntKind.bits] using b1⟩

theorem sized_str2 {H : Type} {ts : List TypeId} {ds : List (DataW H)} (h : (DataW.weightsEach Try.prog ts ds).all (· ≤ reachBytes) = true) {j : Nat} {a c : List UInt8} (ht : ts[j]? = some 36) (hd : ds[j]? = some (.agg [.lit (.string a), .lit (.string c)])) :
    a.length ≤ 140737488351232 ∧ c.length ≤ 140737488351232 := by
  have h1 := List.all_eq_true.1 h _ (DataW.weights_mem_each ht hd a.length (by simp [DataW.weights, DataW.weightsAll, Try.underlying36]))
  have h2 := List.all_eq_true.1 h _ (DataW.weights_mem_each ht hd c.length (by simp [DataW.weights, DataW.weightsAll, Try.underlying36]))
  simp [reachBytes] at h1 h2
  exact ⟨of_decide_eq_true h1, of_decide_eq_true h2⟩

end Go.Proofs.Ytepgefjehnjibaa.law
