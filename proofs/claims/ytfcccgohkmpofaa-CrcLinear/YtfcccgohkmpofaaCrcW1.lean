/-
  Walks of layer crc: one step, eight of them, and the document's own steps.
-/
import Derived.Test.YtfcccgohkmpofaaRows
import Derived.Test.YtfcccgohkmpofaaCrcMath
import Derived.WalkKit
import Derived.WalkSpells
import Derived.WalkLawsBesides
import Derived.Lib.Hide
namespace Go.Proofs.Ytfcccgohkmpofaa
open Go.RowKit

theorem ret_v {a b : Value} (h : a = b) : Ending.returned a = .returned b := by rw [h]

theorem u32_xor_lit (a : Nat) (ha : a < 4294967296) : bits .xor .u32 (a : Int) 2197175160 = ((a ^^^ 2197175160 : Nat) : Int) := u32_xor_nat a 2197175160 ha (by decide)
theorem u32_and_one (a : Nat) (ha : a < 4294967296) : bits .and .u32 (a : Int) 1 = ((a % 2 : Nat) : Int) := by
  rw [← nat_mask1]; exact u32_and_nat a 1 ha (by decide)

theorem crcStep_any (n : Nat) (w : World) (hn : n < 4294967296) :
    Calls Try.prog 18 #[.int .u32 n] w fun e w' => e = .returned (.int .u32 (C.step n : Nat)) ∧ w = w' := by
  have ha := u32_and_one n hn
  have hx : bits .xor .u32 ((n : Int) / 2) 2197175160 = ((n / 2 ^^^ 2197175160 : Nat) : Int) := u32_xor_lit (n / 2) (by omega)
  by_cases h : n % 2 = 1
  · have HE := Lib.hid (show C.step n = (n / 2) ^^^ 2197175160 by rw [C.step, if_pos h])
    have hb : (((n % 2 : Nat) : Int) == 1) = true := by rw [h]; rfl
    clear h
    go_enter Try.func18, Try.ntmps18
    go_wp2
    go_ret
    exact ⟨ret_v (by rw [HE.out]; rfl), rfl⟩
  · have HE := Lib.hid (show C.step n = n / 2 by rw [C.step, if_neg h])
    have hb : (((n % 2 : Nat) : Int) == 1) = false := by rw [show n % 2 = 0 by omega]; rfl
    clear h
    go_enter Try.func18, Try.ntmps18
    go_wp2
    go_ret
    exact ⟨by rw [HE.out]; go_num, rfl⟩

theorem eightSteps_any (n : Nat) (w : World) (hn : n < 4294967296) :
    Calls Try.prog 17 #[.int .u32 n] w fun e w' => e = .returned (.int .u32 (C.s8 n : Nat)) ∧ w = w' := by
  go_enter Try.func17, Try.ntmps17
  go_wp2
  go_loop [0, 3] (fun v i => ∃ k : Nat, k ≤ 8 ∧ i = .int .i64 k ∧ v = .int .u32 (C.steps k n : Nat)) (fun _ i => 8 - (intOf i).toNat)
  case atStart => exact ⟨0, by omega, rfl, rfl⟩
  case round =>
    obtain ⟨k, hk, rfl, rfl⟩ := hrel
    by_cases hlt : k < 8
    · have hl := C.steps_lt k hn
      go_wp2_with (go_at_call 18; refine (crcStep_any _ _ hl).mono ?_; rintro e w' ⟨rfl, rfl⟩)
      go_round
      case rel => exact ⟨k + 1, by omega, by go_num, rfl⟩
      case measure => simp [intOf]; omega
    · obtain rfl : k = 8 := by omega
      go_wp2
      go_ret
      exact ⟨rfl, rfl⟩

set_option maxHeartbeats 400000 in
theorem refSteps_any (n m : Nat) (w : World) (hn : n < 4294967296) (hm : m ≤ 8) :
    Calls Try.prog 16 #[.int .u32 n, .int .i64 m] w fun e w' => e = .returned (.int .u32 (C.steps m n : Nat)) ∧ w = w' := by
  go_enter Try.func16, Try.ntmps16
  go_wp2
  go_loop [0, 5] (fun v i => ∃ k q : Nat, k ≤ m ∧ i = .int .i64 k ∧ v = .int .u32 q ∧ Hid (q = C.steps k n) ∧ q < 4294967296) (fun _ i => m - (intOf i).toNat)
  case atStart => exact ⟨0, n, by omega, rfl, rfl, Lib.hid rfl, hn⟩
  case round =>
    obtain ⟨k, q, hk, rfl, rfl, HQ, hq⟩ := hrel
    by_cases hlt : k < m
    · have HS := C.step_lt hq
      by_cases h : q % 2 = 1
      · have hx : bits .xor .u32 ((q : Int) / 2) 2197175160 = ((q / 2 ^^^ 2197175160 : Nat) : Int) := u32_xor_lit (q / 2) (by omega)
        have HE := Lib.hid (show C.step q = (q / 2) ^^^ 2197175160 by rw [C.step, if_pos h])
        have hb : ((q : Int) % 2 == 1) = true := by rw [show (q : Int) % 2 = 1 by omega]; rfl
        clear h
        go_wp2
        go_round
        case rel => exact ⟨k + 1, C.step q, by omega, by go_num, by rw [HE.out], Lib.hid (by rw [HQ.out]; rfl), HS⟩
        case measure => simp [intOf]; omega
      · have HE := Lib.hid (show C.step q = q / 2 by rw [C.step, if_neg h])
        have hb : ((q : Int) % 2 == 1) = false := by rw [show (q : Int) % 2 = 0 by omega]; rfl
        clear h
        go_wp2
        go_round
        case rel => exact ⟨k + 1, C.step q, by omega, by go_num, by rw [HE.out]; go_num, Lib.hid (by rw [HQ.out]; rfl), HS⟩
        case measure => simp [intOf]; omega
    · obtain rfl : k = m := by omega
      go_wp2
      go_ret
      exact ⟨ret_v (by rw [← HQ.out]; rfl), rfl⟩

theorem refEntry_any (n : Nat) (w : World) (hn : n < 256) :
    Calls Try.prog 15 #[.int .i64 n] w fun e w' => e = .returned (.int .u32 (C.s8 n : Nat)) ∧ w = w' := by
  go_enter Try.func15, Try.ntmps15
  go_wp2_with (go_at_call 16; refine (refSteps_any n 8 _ (by omega) (by omega)).mono ?_; rintro e w' ⟨rfl, rfl⟩)
  go_ret
  exact ⟨rfl, rfl⟩

end Go.Proofs.Ytfcccgohkmpofaa
