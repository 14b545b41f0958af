/-
  The law PackTells, walked: whatever the numbers and the text, the program's strings are the document's.
-/
import Derived.Test.YtkgdcomaphgjaaaPackW8
namespace Go.Proofs.Ytkgdcomaphgjaaa
open Go.RowKit

set_option maxRecDepth 100000 in
set_option maxHeartbeats 1000000 in
theorem packTells_walk (n : Nat) (x : Int) (s : ByteArray) (w : World) (hn : n < 4294967296) (h0 : -9223372036854775808 ≤ x) (h1 : x ≤ 9223372036854775807) (hs : s.size ≤ 35184372088832) :
    Calls Try.prog 3 #[.int .u32 n, .int .i64 x, .string s] w fun e w' => e = .returned (.bool true) ∧ Below w.heap.size w w' := by
  go_enter Try.func3, Try.ntmps3
  go_wp2_with fail
  refine (awake_any w).mono ?_
  rintro e w0 ⟨rfl, hb0⟩
  go_wp2_with fail
  refine (num_any n w0 hn).mono ?_
  rintro e w1 ⟨rfl, hb1⟩
  go_wp2_with fail
  refine (rnum_any n w1 hn).mono ?_
  rintro e w2 ⟨rfl, hb2⟩
  go_wp2_with fail
  refine (int_any x w2 h0 h1).mono ?_
  rintro e w3 ⟨rfl, hb3⟩
  go_wp2_with fail
  refine (rint_any x w3 h0 h1).mono ?_
  rintro e w4 ⟨rfl, hb4⟩
  go_wp2_with fail
  refine (text_any s w4 hs).mono ?_
  rintro e w5 ⟨rfl, hb5⟩
  go_wp2_with fail
  refine (rtext_any s w5 hs).mono ?_
  rintro e w6 ⟨rfl, hb6⟩
  go_wp2_with fail
  go_ret
  exact ⟨rfl, below_two (below_two (below_two (below_two (below_two (below_two hb0 hb1) hb2) hb3) hb4) hb5) hb6⟩

end Go.Proofs.Ytkgdcomaphgjaaa
