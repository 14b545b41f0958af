/-
  The law ValueTakes, walked: whatever the string, the program takes what the document takes.
-/
import Derived.Test.YtepgefjehnjibaaValWB
namespace Go.Proofs.Ytepgefjehnjibaa
open Go.RowKit

theorem tk_form (o : Option (Int × Int × List UInt8 × List UInt8)) : ∃ (t n : Int) (g h : ByteArray) (k : Int), tkV o = .tuple #[.agg #[.int .i64 t, .int .i64 n, .string g], .string h, .int .i64 k] ∧
    ((k = 2 ∧ o = none ∧ t = 0 ∧ n = 0 ∧ g = ⟨#[]⟩ ∧ h = ⟨#[]⟩) ∨ (k = 0 ∧ o = some (t, n, g.data.toList, h.data.toList))) := by
  cases o with
  | none => exact ⟨0, 0, ⟨#[]⟩, ⟨#[]⟩, 2, rfl, Or.inl ⟨rfl, rfl, rfl, rfl, rfl, rfl⟩⟩
  | some x =>
    obtain ⟨t, n, g, h⟩ := x
    exact ⟨t, n, ⟨g.toArray⟩, ⟨h.toArray⟩, 0, rfl, Or.inr ⟨rfl, rfl⟩⟩

set_option maxRecDepth 100000 in
set_option maxHeartbeats 1000000 in
theorem valueTakes_walk (s : ByteArray) (w : World) (hs : s.size ≤ 140737488351232) :
    Calls Try.prog 4 #[.string s] w fun e w' => e = .returned (.bool true) ∧ Below w.heap.size w w' := by
  obtain ⟨t, n, g, h, k, hf, _⟩ := tk_form (V.take s.data.toList)
  have H1 := Lib.hid (fun w => by have := take_any s w hs; rw [hf] at this; exact this)
  have H2 := Lib.hid (fun w => by have := rtake_any s w hs; rw [hf] at this; exact this)
  clear hf hs
  have Q := eql_val
  have hsame := same_self t n g
  go_enter Try.func4, Try.ntmps4
  go_wp2_with fail
  refine (awake_any w).mono ?_
  rintro e w1 ⟨rfl, hb1⟩
  go_wp2_with fail
  refine (H1.out w1).mono ?_
  rintro e w2 ⟨rfl, hb⟩
  have A2 := Kv.new (below_two hb1 hb) t n g
  clear hb hb1
  go_wp2_with fail
  refine (H2.out _).mono ?_
  rintro e w3 ⟨rfl, hb⟩
  have A3 := A2.step hb
  clear A2 hb
  generalize w2.heap.size = p at A3
  have A4 := A3.alloc (.cells #[.int .i64 t, .int .i64 n, .string g] 23)
  obtain ⟨_, pl, c0, c1, c2⟩ := id A3
  go_wp2_with fail
  go_ret
  exact ⟨rfl, A4.bel⟩

end Go.Proofs.Ytepgefjehnjibaa
