/-
  Walks of layer pack: the calls that the document lists, for numbers of eight bytes (for the layers above).
-/
import Derived.Test.YtepgefjehnjibaaPackW6
namespace Go.Proofs.Ytepgefjehnjibaa
open Go.RowKit

theorem hf8 (n : Nat) (w : World) (h : n < 18446744073709551616) :
    Calls Try.prog 31 #[.int .u64 n, .int .i64 8] w fun e w' => e = .returned (.string ⟨(M.hiB 8 n).toArray⟩) ∧ Below w.heap.size w w' := highestFirst_any n 8 w h (by decide)

/-- what stands for a number that may be below 0 -/
def up (x : Int) : Nat := (x + 9223372036854775808).toNat

theorem up_lt {x : Int} (_h0 : -9223372036854775808 ≤ x) (h1 : x ≤ 9223372036854775807) : up x < 18446744073709551616 := by unfold up; omega

theorem up_xor {x : Int} (h0 : -9223372036854775808 ≤ x) (h1 : x ≤ 9223372036854775807) : bits .xor .u64 (IntKind.u64.wrap x) 9223372036854775808 = (up x : Int) := by
  obtain ⟨q, hq⟩ : ∃ q : Nat, IntKind.u64.wrap x = q := ⟨(IntKind.u64.wrap x).toNat, by rw [IntKind.wrap_u64]; omega⟩
  have hx := hq
  rw [IntKind.wrap_u64] at hx
  rw [hq, xor63 q (by omega)]
  unfold up
  omega

theorem up_add {x : Int} (h0 : -9223372036854775808 ≤ x) (h1 : x ≤ 9223372036854775807) : IntKind.u64.wrap (IntKind.u64.wrap x + 9223372036854775808) = (up x : Int) := by
  rw [IntKind.wrap_u64, IntKind.wrap_u64]
  unfold up
  omega

theorem int_any (x : Int) (w : World) (h0 : -9223372036854775808 ≤ x) (h1 : x ≤ 9223372036854775807) :
    Calls Try.prog 19 #[.int .i64 x] w fun e w' => e = .returned (.string ⟨(M.hiB 8 (up x)).toArray⟩) ∧ Below w.heap.size w w' := by
  go_enter Try.func19, Try.ntmps19
  go_wp2_with fail
  rw [up_xor h0 h1]
  refine (hf8 (up x) w (up_lt h0 h1)).mono ?_
  rintro e w' ⟨rfl, hb⟩
  go_wp2
  go_ret
  exact ⟨rfl, hb⟩

theorem rint_any (x : Int) (w : World) (h0 : -9223372036854775808 ≤ x) (h1 : x ≤ 9223372036854775807) :
    Calls Try.prog 21 #[.int .i64 x] w fun e w' => e = .returned (.string ⟨(M.hiB 8 (up x)).toArray⟩) ∧ Below w.heap.size w w' := by
  go_enter Try.func21, Try.ntmps21
  go_wp2_with fail
  rw [up_add h0 h1]
  have := up_lt h0 h1
  refine (bytes_any 8 (up x) 8 w (by omega) (by omega) (by decide) (by decide) rfl).mono ?_
  rintro e w' ⟨rfl, hb⟩
  go_wp2
  go_ret
  exact ⟨rfl, hb⟩

def tiV (l : List UInt8) : Value :=
  if l.length < 8 then .tuple #[.int .i64 0, .string ⟨#[]⟩, .int .i64 2] else .tuple #[.int .i64 ((M.num (l.take 8) : Nat) - 9223372036854775808), .string ⟨(l.drop 8).toArray⟩, .int .i64 0]

theorem tiV_no {s : ByteArray} (h : s.size < 8) : tiV s.data.toList = .tuple #[.int .i64 0, .string ⟨#[]⟩, .int .i64 2] := by
  rw [tiV, if_pos (by simpa using h)]
theorem tiV_yes {s : ByteArray} (h : ¬ s.size < 8) : tiV s.data.toList = .tuple #[.int .i64 ((M.num (s.data.toList.take 8) : Nat) - 9223372036854775808), .string (s.extract 8 s.size), .int .i64 0] := by
  rw [tiV, if_neg (by simpa using h), extract_end]

theorem num_take8_lt (l : List UInt8) : M.num (l.take 8) < 18446744073709551616 := by
  have h1 := M.num_lt (l.take 8)
  have h3 : 256 ^ (l.take 8).length ≤ 256 ^ 8 := Nat.pow_le_pow_right (by decide) (by simp; omega)
  have h4 : 256 ^ 8 = 18446744073709551616 := by decide
  omega

theorem v_tup {k : IntKind} {a b : Int} {x y : Value} (h : a = b) : Value.tuple #[.int k a, x, y] = .tuple #[.int k b, x, y] := by rw [h]

theorem ti_fin {s : ByteArray} (h : ¬ s.size < 8) : tiV s.data.toList = .tuple #[.int .i64 (wrap64 (bits .xor .u64 (M.num (s.data.toList.take 8) : Nat) 9223372036854775808)), .string (s.extract 8 s.size), .int .i64 0] := by
  have hn := num_take8_lt s.data.toList
  rw [tiV_yes h]
  exact v_tup (by rw [xor63 _ hn]; unfold wrap64; omega)

theorem rti_fin {s : ByteArray} (h : ¬ s.size < 8) : tiV s.data.toList = .tuple #[.int .i64 (IntKind.i64.wrap (IntKind.u64.wrap ((M.num (s.data.toList.take 8) : Nat) - 9223372036854775808))), .string (s.extract 8 s.size), .int .i64 0] := by
  have hn := num_take8_lt s.data.toList
  rw [tiV_yes h]
  exact v_tup (by rw [IntKind.wrap_i64, IntKind.wrap_u64]; omega)

theorem thf8_no (s : ByteArray) (w : World) (hs : s.size < 8) :
    Calls Try.prog 39 #[.string s, .int .i64 8] w fun e w' => e = .returned (.tuple #[.int .u64 0, .string ⟨#[]⟩, .int .i64 2]) ∧ w = w' := takeHF_no s 8 w (by decide) hs
theorem thf8_yes (s : ByteArray) (w : World) (hs : 8 ≤ s.size) (hl : s.size ≤ maxLen) :
    Calls Try.prog 39 #[.string s, .int .i64 8] w fun e w' => e = .returned (.tuple #[.int .u64 (M.num (s.data.toList.take 8) : Nat), .string (s.extract 8 s.size), .int .i64 0]) ∧ Below w.heap.size w w' := takeHF_yes s 8 w (by decide) hs hl

theorem takeInt_any (s : ByteArray) (w : World) (hl : s.size ≤ maxLen) :
    Calls Try.prog 36 #[.string s] w fun e w' => e = .returned (tiV s.data.toList) ∧ Below w.heap.size w w' := by
  by_cases h : s.size < 8
  · rw [tiV_no h]
    go_enter Try.func36, Try.ntmps36
    go_wp2_with fail
    refine (thf8_no s w h).mono ?_
    rintro e w' ⟨rfl, rfl⟩
    go_wp2
    go_ret3
    exact ⟨rfl, Below.refl _ _⟩
  · go_enter Try.func36, Try.ntmps36
    go_wp2_with fail
    refine (thf8_yes s w (by omega) hl).mono ?_
    rintro e w' ⟨rfl, hb⟩
    go_wp2
    go_ret3
    exact ⟨ret_v (ti_fin h).symm, hb⟩

theorem rtakeInt_any (s : ByteArray) (w : World) (_hl : s.size ≤ maxLen) :
    Calls Try.prog 29 #[.string s] w fun e w' => e = .returned (tiV s.data.toList) ∧ Below w.heap.size w w' := by
  by_cases h : s.size < 8
  · rw [tiV_no h]
    go_enter Try.func29, Try.ntmps29
    go_wp2
    go_ret3
    exact ⟨rfl, Below.refl _ _⟩
  · go_enter Try.func29, Try.ntmps29
    go_wp2_with fail
    go_region_with (go_at_call 38; refine (number_any _ _ ?_).mono ?_; (simp; omega); rintro e w' ⟨rfl, rfl⟩)
    all_goals (try go_wp2)
    all_goals go_ret3
    all_goals exact ⟨ret_v (rti_fin h).symm, (Below.refl _ _).drew⟩

theorem v_bool {a b : Bool} (h : a = b) : Value.bool a = .bool b := by rw [h]

theorem below_two {w0 w1 w2 : World} (h1 : Below w0.heap.size w0 w1) (h2 : Below w1.heap.size w1 w2) : Below w0.heap.size w0 w2 := h1.trans (h2.mono h1.size)

theorem bytes_eta (s : ByteArray) : (⟨s.data.toList.toArray⟩ : ByteArray) = s := by cases s; simp

end Go.Proofs.Ytepgefjehnjibaa
