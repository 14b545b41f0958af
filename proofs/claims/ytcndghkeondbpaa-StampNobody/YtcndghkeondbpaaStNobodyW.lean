/-
  Walks of layer stamp's laws: StampNobody.
-/
import Derived.Test.YtcndghkeondbpaaStAwake
namespace Go.Proofs.Ytcndghkeondbpaa
open Go.RowKit Go.Maps

set_option maxRecDepth 100000 in
set_option maxHeartbeats 2000000 in
theorem StampNobody_walk (w : World) (n : Int) (h0 : -9223372036854775808 ≤ n) (h1 : n ≤ 9223372036854775807) :
    Calls Try.prog 8 #[.int .i64 n] w fun e w' => e = .returned (.bool true) ∧ Below w.heap.size w w' := by
  go_enter Try.func8, Try.ntmps8
  go_wp2_with (first
    | (go_at_call 9; refine (awake9_any w).mono ?_; rintro e w1 ⟨rfl, b1⟩))
  have B1 := Lib.hid b1
  clear b1
  go_wp2_with (first
    | (go_at_call 12; refine (issue_nil w1).mono ?_; rintro e w2 ⟨rfl, rfl⟩))
  go_wp2_with (first
    | (go_at_call 16; refine (raise_nil n w1).mono ?_; rintro e w2 ⟨rfl, rfl⟩))
  by_cases hm : T.mayB n = true
  · have HN := Lib.hid (new_ex n hm w1)
    have hm := of_decide_eq_true hm
    unfold T.most at hm
    obtain ⟨hn1, hn2⟩ := hm
    have hn1' : ¬ n < 1 := by omega
    have hn2' : ¬ n > 1099511627777 := by omega
    go_wp2_with (first
      | (go_at_call 10; refine HN.out.mono ?_; rintro e w2 ⟨g, b, rfl, _, _, _, b2⟩))
    have B2 : Hid (Below w.heap.size w w2) := Lib.hid (B1.out.trans (b2.mono B1.out.size))
    clear b2 HN
    go_wp2_with (first
      | (go_at_call 14; refine (done_nil n w2).mono ?_; rintro e w3 ⟨rfl, rfl⟩)
      | (go_at_call 22; refine (active_nil w2).mono ?_; rintro e w3 ⟨rfl, rfl⟩)
      | (go_at_call 19; refine (min_nil w2).mono ?_; rintro e w3 ⟨rfl, rfl⟩)
      | (go_at_call 18; refine (next_nil w2).mono ?_; rintro e w3 ⟨rfl, rfl⟩))
    go_ret
    exact ⟨ret_v (v_bool (by first | rfl | (simp; omega))), B2.out⟩
  · have hm : T.mayB n = false := by simpa using hm
    have HN := Lib.hid (new_none n hm w1)
    have hm := of_decide_eq_false hm
    unfold T.most at hm
    by_cases hn1 : n < 1
    · clear hm
      go_wp2_with (first
        | (go_at_call 10; refine HN.out.mono ?_; rintro e w2 ⟨rfl, rfl⟩))
      go_wp2_with (first
        | (go_at_call 14; refine (done_nil n w1).mono ?_; rintro e w3 ⟨rfl, rfl⟩)
        | (go_at_call 22; refine (active_nil w1).mono ?_; rintro e w3 ⟨rfl, rfl⟩)
        | (go_at_call 19; refine (min_nil w1).mono ?_; rintro e w3 ⟨rfl, rfl⟩)
        | (go_at_call 18; refine (next_nil w1).mono ?_; rintro e w3 ⟨rfl, rfl⟩))
      go_ret
      exact ⟨rfl, B1.out⟩
    · have hn2 : n > 1099511627777 := by omega
      clear hm
      go_wp2_with (first
        | (go_at_call 10; refine HN.out.mono ?_; rintro e w2 ⟨rfl, rfl⟩))
      go_wp2_with (first
        | (go_at_call 14; refine (done_nil n w1).mono ?_; rintro e w3 ⟨rfl, rfl⟩)
        | (go_at_call 22; refine (active_nil w1).mono ?_; rintro e w3 ⟨rfl, rfl⟩)
        | (go_at_call 19; refine (min_nil w1).mono ?_; rintro e w3 ⟨rfl, rfl⟩)
        | (go_at_call 18; refine (next_nil w1).mono ?_; rintro e w3 ⟨rfl, rfl⟩))
      go_ret
      exact ⟨rfl, B1.out⟩

end Go.Proofs.Ytcndghkeondbpaa
