/-
  Walks of layer pack: the document's example holds.
-/
import Derived.Test.YtkgdcomaphgjaaaPackW7
namespace Go.Proofs.Ytkgdcomaphgjaaa
open Go.RowKit

theorem text_eg (w : World) : Calls Try.prog 14 #[.string ⟨#[97, 0]⟩] w fun e w' => e = .returned (.string ⟨#[97, 0, 255, 0, 1]⟩) ∧ Below w.heap.size w w' :=
  text_any ⟨#[97, 0]⟩ w (by decide)
theorem takeText_eg (w : World) : Calls Try.prog 20 #[.string ⟨#[97, 0, 255, 0, 1, 120]⟩] w fun e w' => e = .returned (.tuple #[.string ⟨#[97, 0]⟩, .string ⟨#[120]⟩, .int .i64 0]) ∧ Below w.heap.size w w' :=
  takeText_any ⟨#[97, 0, 255, 0, 1, 120]⟩ w (by decide)
theorem num_eg (w : World) : Calls Try.prog 10 #[.int .u32 258] w fun e w' => e = .returned (.string ⟨#[0, 0, 1, 2]⟩) ∧ Below w.heap.size w w' :=
  num_any 258 w (by decide)
theorem takeNum_eg (w : World) : Calls Try.prog 16 #[.string ⟨#[0, 0, 1, 2]⟩] w fun e w' => e = .returned (.tuple #[.int .u32 258, .string ⟨#[]⟩, .int .i64 0]) ∧ Below w.heap.size w w' :=
  takeNum_any ⟨#[0, 0, 1, 2]⟩ w (by decide)
theorem int_eg1 (w : World) : Calls Try.prog 12 #[.int .i64 (-1)] w fun e w' => e = .returned (.string ⟨#[127, 255, 255, 255, 255, 255, 255, 255]⟩) ∧ Below w.heap.size w w' := by
  have := int_any (-1) w (by decide) (by decide)
  rwa [show M.hiB 8 (up (-1)) = [127, 255, 255, 255, 255, 255, 255, 255] by decide +kernel] at this
theorem int_eg0 (w : World) : Calls Try.prog 12 #[.int .i64 0] w fun e w' => e = .returned (.string ⟨#[128, 0, 0, 0, 0, 0, 0, 0]⟩) ∧ Below w.heap.size w w' := by
  have := int_any 0 w (by decide) (by decide)
  rwa [show M.hiB 8 (up 0) = [128, 0, 0, 0, 0, 0, 0, 0] by decide +kernel] at this

theorem v_bool {a b : Bool} (h : a = b) : Value.bool a = .bool b := by rw [h]

theorem below_two {w0 w1 w2 : World} (h1 : Below w0.heap.size w0 w1) (h2 : Below w1.heap.size w1 w2) : Below w0.heap.size w0 w2 := h1.trans (h2.mono h1.size)

set_option maxHeartbeats 1000000 in
theorem awake_any (w : World) : Calls Try.prog 9 #[] w fun e w' => e = .returned (.bool true) ∧ Below w.heap.size w w' := by
  go_enter Try.func9, Try.ntmps9
  go_wp2_with fail
  refine (text_eg w).mono ?_
  rintro e w1 ⟨rfl, hb1⟩
  go_wp2_with fail
  rw [show (⟨#[97, 0, 255, 0, 1]⟩ : ByteArray) ++ ⟨#[120]⟩ = ⟨#[97, 0, 255, 0, 1, 120]⟩ from ba_append [97, 0, 255, 0, 1] [120]]
  refine (takeText_eg w1).mono ?_
  rintro e w2 ⟨rfl, hb2⟩
  go_wp2_with fail
  refine (num_eg w2).mono ?_
  rintro e w3 ⟨rfl, hb3⟩
  go_wp2_with fail
  refine (takeNum_eg w3).mono ?_
  rintro e w4 ⟨rfl, hb4⟩
  go_wp2_with fail
  refine (text_eg w4).mono ?_
  rintro e w5 ⟨rfl, hb5⟩
  go_wp2_with fail
  refine (int_eg1 w5).mono ?_
  rintro e w6 ⟨rfl, hb6⟩
  go_wp2_with fail
  refine (int_eg0 w6).mono ?_
  rintro e w7 ⟨rfl, hb7⟩
  go_wp2_with fail
  go_ret
  exact ⟨ret_v (v_bool (by decide +kernel : Op.bytesLess [127, 255, 255, 255, 255, 255, 255, 255] [128, 0, 0, 0, 0, 0, 0, 0] = true)), below_two (below_two (below_two (below_two (below_two (below_two hb1 hb2) hb3) hb4) hb5) hb6) hb7⟩

end Go.Proofs.Ytkgdcomaphgjaaa
