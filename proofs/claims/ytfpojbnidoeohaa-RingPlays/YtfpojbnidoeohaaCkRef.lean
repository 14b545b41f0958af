/-
  Sums of bytes, as the document has them.
-/
import Derived.Test.YtfpojbnidoeohaaSlTypes
import Derived.Test.YtfpojbnidoeohaaCrcMath
import Derived.WalkLawsBesides
namespace Go.Proofs.Ytfpojbnidoeohaa
open Go.RowKit

theorem u32_xor_lit (a : Nat) (ha : a < 4294967296) : bits .xor .u32 (a : Int) 2197175160 = ((a ^^^ 2197175160 : Nat) : Int) := u32_xor_nat a 2197175160 ha (by decide)

set_option maxHeartbeats 400000 in
theorem refSteps_any (n m : Nat) (w : World) (hn : n < 4294967296) (hm : m ≤ 8) :
    Calls Try.prog 63 #[.int .u32 n, .int .i64 m] w fun e w' => e = .returned (.int .u32 (C.steps m n : Nat)) ∧ w = w' := by
  go_enter Try.func63, Try.ntmps63
  go_wp2
  go_loop [0, 5] (fun v i => ∃ k q : Nat, k ≤ m ∧ i = .int .i64 k ∧ v = .int .u32 q ∧ Hid (q = C.steps k n) ∧ q < 4294967296) (fun _ i => m - (intOf i).toNat)
  case atStart => exact ⟨0, n, by omega, rfl, rfl, Lib.hid rfl, hn⟩
  case round =>
    obtain ⟨k, q, hk, rfl, rfl, HQ, hq⟩ := hrel
    by_cases hlt : k < m
    · have HS := C.step_lt hq
      by_cases h : q % 2 = 1
      · have hx : bits .xor .u32 ((q : Int) / 2) 2197175160 = ((q / 2 ^^^ 2197175160 : Nat) : Int) := u32_xor_lit (q / 2) (by omega)
        have HE := Lib.hid (show C.step q = (q / 2) ^^^ 2197175160 by rw [C.step, if_pos h])
        have hb : ((q : Int) % 2 == 1) = true := by rw [show (q : Int) % 2 = 1 by omega]; rfl
        clear h
        go_wp2
        go_round
        case rel => exact ⟨k + 1, C.step q, by omega, by go_num, by rw [HE.out], Lib.hid (by rw [HQ.out]; rfl), HS⟩
        case measure => simp [intOf]; omega
      · have HE := Lib.hid (show C.step q = q / 2 by rw [C.step, if_neg h])
        have hb : ((q : Int) % 2 == 1) = false := by rw [show (q : Int) % 2 = 0 by omega]; rfl
        clear h
        go_wp2
        go_round
        case rel => exact ⟨k + 1, C.step q, by omega, by go_num, by rw [HE.out]; go_num, Lib.hid (by rw [HQ.out]; rfl), HS⟩
        case measure => simp [intOf]; omega
    · obtain rfl : k = m := by omega
      go_wp2
      go_ret
      exact ⟨ret_v (by rw [← HQ.out]; rfl), rfl⟩

theorem run_take_succ (c : Nat) (l : List UInt8) (k : Nat) (h : k < l.length) : C.run c (l.take (k + 1)) = C.upd (C.run c (l.take k)) l[k] := by
  rw [List.take_succ_eq_append_getElem h, C.run_snoc]

theorem u32_in (c : Nat) (x : UInt8) (hc : c < 4294967296) : bits .xor .u32 (c : Int) (x.toNat : Int) = ((c ^^^ x.toNat : Nat) : Int) := u32_xor_nat c x.toNat hc (by have := x.toNat_lt; omega)

theorem in_lt (c : Nat) (x : UInt8) (hc : c < 4294967296) : c ^^^ x.toNat < 4294967296 := Nat.xor_lt_two_pow (n := 32) hc (by have := x.toNat_lt; omega)

theorem refSteps8_any (n : Nat) (w : World) (hn : n < 4294967296) :
    Calls Try.prog 63 #[.int .u32 n, .int .i64 8] w fun e w' => e = .returned (.int .u32 (C.s8 n : Nat)) ∧ w = w' := refSteps_any n 8 w hn (by omega)

set_option maxHeartbeats 1000000 in
theorem refMore_any (c : Nat) (v : Value) (l : List UInt8) (w : World) (F : Nat → Prop) (h : SlB w F v l) (hc : c < 4294967296) (hl : l.length ≤ maxLen) :
    Calls Try.prog 61 #[.int .u32 c, v] w fun e w' => e = .returned (.int .u32 (C.more c l : Nat)) ∧ w = w' := by
  unfold maxLen at hl
  obtain ⟨_, A, cap, rfl, hcap, hx⟩ := h
  have HX := Lib.hid hx
  clear hx
  have HF := Lib.hid (C.flip_sub hc)
  go_enter Try.func61, Try.ntmps61
  go_wp2
  go_loop [0, 5] (fun v i => ∃ k q : Nat, k ≤ l.length ∧ i = .int .i64 k ∧ v = .int .u32 q ∧ Hid (q = C.run (C.flip c) (l.take k)) ∧ q < 4294967296) (fun _ i => l.length - (intOf i).toNat)
  case atStart => exact ⟨0, 4294967295 - c, Nat.zero_le _, rfl, by go_num, Lib.hid (by rw [HF.out]; rfl), by omega⟩
  case round =>
    obtain ⟨k, q, hk, rfl, rfl, HQ, hq⟩ := hrel
    by_cases hlt : k < l.length
    · obtain ⟨a, rfl, hab, hcell⟩ := HX.out (by omega)
      have hck := hcell k _ (bytesV_at l k hlt)
      clear hcell
      have HS := Lib.hid (run_take_succ (C.flip c) l k hlt)
      obtain ⟨x, hxe⟩ : ∃ x, x = l[k] := ⟨_, rfl⟩
      rw [← hxe] at hck HS
      clear hxe
      have hxl := x.toNat_lt
      have h32 := u32_in q x hq
      have hml := in_lt q x hq
      have hul := C.upd_lt x hq
      obtain ⟨m, hm⟩ : ∃ m, m = q ^^^ x.toNat := ⟨_, rfl⟩
      rw [← hm] at h32 hml
      have HM := Lib.hid hm
      clear hm
      go_wp2_with (go_at_call 63; with_reducible refine (refSteps8_any m _ hml).mono ?_; rintro e w' ⟨rfl, rfl⟩)
      go_round
      case rel => exact ⟨k + 1, C.upd q x, by omega, by go_num, by rw [C.upd, ← HM.out], Lib.hid (by rw [HQ.out]; exact HS.out.symm), hul⟩
      case measure => simp [intOf]; omega
    · obtain rfl : k = l.length := by omega
      have HG := Lib.hid (C.flip_sub hq)
      go_wp2
      go_ret
      refine ⟨ret_v ?_, rfl⟩
      rw [C.more, ← List.take_length (l := l), ← HQ.out, ← HG.out]
      show Value.int _ _ = Value.int _ _
      go_num

theorem refOf_any (v : Value) (l : List UInt8) (w : World) (F : Nat → Prop) (h : SlB w F v l) (hl : l.length ≤ maxLen) :
    Calls Try.prog 55 #[v] w fun e w' => e = .returned (.int .u32 (C.sum l : Nat)) ∧ w = w' := by
  have HS := Lib.hid h
  clear h
  go_enter Try.func55, Try.ntmps55
  go_wp2_with fail
  refine (refMore_any 0 v l w F HS.out (by decide) hl).mono ?_
  rintro e w1 ⟨rfl, rfl⟩
  go_wp2
  go_ret
  exact ⟨rfl, rfl⟩

end Go.Proofs.Ytfpojbnidoeohaa
