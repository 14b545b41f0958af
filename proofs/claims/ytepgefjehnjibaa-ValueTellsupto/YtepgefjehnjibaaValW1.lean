/-
  Walks of layer value: comparing numbers and strings, the byte of a type.
-/
import Derived.Test.YtepgefjehnjibaaValMath
import Derived.Laws.StructEq
namespace Go.Proofs.Ytepgefjehnjibaa
open Go.RowKit

theorem isNaNi_any (x : Int) (w : World) : Calls Try.prog 33 #[.int .i64 x] w fun e w' => e = .returned (.bool false) ∧ w = w' := by
  go_enter Try.func33, Try.ntmps33
  go_wp2
  go_ret
  exact ⟨by simp, rfl⟩

theorem isNaNj_any (x : Int) (w : World) : Calls Try.prog 34 #[.int .i64 x] w fun e w' => e = .returned (.bool false) ∧ w = w' := by
  go_enter Try.func34, Try.ntmps34
  go_wp2
  go_ret
  exact ⟨by simp, rfl⟩

theorem isNaNs_any (s : ByteArray) (w : World) : Calls Try.prog 35 #[.string s] w fun e w' => e = .returned (.bool false) ∧ w = w' := by
  go_enter Try.func35, Try.ntmps35
  go_wp2
  go_ret
  exact ⟨by simp, rfl⟩

theorem typeByte_any (t : Int) (w : World) : Calls Try.prog 18 #[.int .i64 t] w fun e w' => e = .returned (.int .u8 (V.tb t : Nat)) ∧ w = w' := by
  by_cases h0 : t < 0
  · rw [show V.tb t = 255 by rw [V.tb, if_neg (by omega)]]
    go_enter Try.func18, Try.ntmps18
    go_wp2
    go_ret
    exact ⟨rfl, rfl⟩
  · by_cases h1 : 255 < t
    · rw [show V.tb t = 255 by rw [V.tb, if_neg (by omega)]]
      go_enter Try.func18, Try.ntmps18
      go_wp2
      go_ret
      exact ⟨rfl, rfl⟩
    · obtain ⟨n, rfl⟩ := Int.eq_ofNat_of_zero_le (show 0 ≤ t by omega)
      rw [show V.tb (n : Int) = n by rw [V.tb, if_pos (by omega)]; omega]
      have hm : (n : Int) % 256 = n := by omega
      go_enter Try.func18, Try.ntmps18
      go_wp2
      go_ret
      exact ⟨rfl, rfl⟩

theorem cmpi_any (a b : Int) (w : World) : Calls Try.prog 24 #[.int .i64 a, .int .i64 b] w fun e w' => e = .returned (.int .i64 (V.cmpI a b)) ∧ w = w' := by
  rcases Int.lt_trichotomy a b with h | h | h
  · rw [show V.cmpI a b = -1 by rw [V.cmpI, if_pos h]]
    go_enter Try.func24, Try.ntmps24
    go_wp2_with fail
    refine (isNaNi_any _ w).mono ?_
    rintro e w1 ⟨rfl, rfl⟩
    go_wp2_with fail
    refine (isNaNi_any _ w).mono ?_
    rintro e w1 ⟨rfl, rfl⟩
    go_wp2
    go_ret
    exact ⟨rfl, rfl⟩
  · subst h
    rw [V.cmpI_self]
    go_enter Try.func24, Try.ntmps24
    go_wp2_with fail
    refine (isNaNi_any _ w).mono ?_
    rintro e w1 ⟨rfl, rfl⟩
    go_wp2_with fail
    refine (isNaNi_any _ w).mono ?_
    rintro e w1 ⟨rfl, rfl⟩
    go_wp2
    go_ret
    exact ⟨rfl, rfl⟩
  · rw [show V.cmpI a b = 1 by rw [V.cmpI, if_neg (by omega), if_pos h]]
    have h' : ¬ a < b := by omega
    go_enter Try.func24, Try.ntmps24
    go_wp2_with fail
    refine (isNaNi_any _ w).mono ?_
    rintro e w1 ⟨rfl, rfl⟩
    go_wp2_with fail
    refine (isNaNi_any _ w).mono ?_
    rintro e w1 ⟨rfl, rfl⟩
    go_wp2
    go_ret
    exact ⟨rfl, rfl⟩

theorem cmpj_any (a b : Int) (w : World) : Calls Try.prog 25 #[.int .i64 a, .int .i64 b] w fun e w' => e = .returned (.int .i64 (V.cmpI a b)) ∧ w = w' := by
  rcases Int.lt_trichotomy a b with h | h | h
  · rw [show V.cmpI a b = -1 by rw [V.cmpI, if_pos h]]
    go_enter Try.func25, Try.ntmps25
    go_wp2_with fail
    refine (isNaNj_any _ w).mono ?_
    rintro e w1 ⟨rfl, rfl⟩
    go_wp2_with fail
    refine (isNaNj_any _ w).mono ?_
    rintro e w1 ⟨rfl, rfl⟩
    go_wp2
    go_ret
    exact ⟨rfl, rfl⟩
  · subst h
    rw [V.cmpI_self]
    go_enter Try.func25, Try.ntmps25
    go_wp2_with fail
    refine (isNaNj_any _ w).mono ?_
    rintro e w1 ⟨rfl, rfl⟩
    go_wp2_with fail
    refine (isNaNj_any _ w).mono ?_
    rintro e w1 ⟨rfl, rfl⟩
    go_wp2
    go_ret
    exact ⟨rfl, rfl⟩
  · rw [show V.cmpI a b = 1 by rw [V.cmpI, if_neg (by omega), if_pos h]]
    have h' : ¬ a < b := by omega
    go_enter Try.func25, Try.ntmps25
    go_wp2_with fail
    refine (isNaNj_any _ w).mono ?_
    rintro e w1 ⟨rfl, rfl⟩
    go_wp2_with fail
    refine (isNaNj_any _ w).mono ?_
    rintro e w1 ⟨rfl, rfl⟩
    go_wp2
    go_ret
    exact ⟨rfl, rfl⟩

theorem list_ne {a b : List UInt8} (h : a = b → False) : (a == b) = false := by rw [beq_eq_false_iff_ne]; exact h

theorem cmps_any (a b : ByteArray) (w : World) : Calls Try.prog 26 #[.string a, .string b] w fun e w' => e = .returned (.int .i64 (V.cmpS a.data.toList b.data.toList)) ∧ w = w' := by
  rw [← ByteArray.toList_eq, ← ByteArray.toList_eq]
  by_cases h : Op.bytesLess a.toList b.toList = true
  · rw [show V.cmpS a.toList b.toList = -1 by rw [V.cmpS, if_pos h]]
    go_enter Try.func26, Try.ntmps26
    go_wp2_with fail
    refine (isNaNs_any _ w).mono ?_
    rintro e w1 ⟨rfl, rfl⟩
    go_wp2_with fail
    refine (isNaNs_any _ w).mono ?_
    rintro e w1 ⟨rfl, rfl⟩
    go_wp2
    go_ret
    exact ⟨rfl, rfl⟩
  · rw [Bool.not_eq_true] at h
    by_cases h' : Op.bytesLess b.toList a.toList = true
    · rw [show V.cmpS a.toList b.toList = 1 by rw [V.cmpS, if_neg (by rw [h]; decide), if_pos h']]
      have hn := list_ne (a := a.toList) (b := b.toList) (fun e => by rw [e, M.less_irrefl] at h'; cases h')
      go_enter Try.func26, Try.ntmps26
      go_wp2_with fail
      refine (isNaNs_any _ w).mono ?_
      rintro e w1 ⟨rfl, rfl⟩
      go_wp2_with fail
      refine (isNaNs_any _ w).mono ?_
      rintro e w1 ⟨rfl, rfl⟩
      go_wp2
      go_ret
      exact ⟨rfl, rfl⟩
    · rw [Bool.not_eq_true] at h'
      rw [show V.cmpS a.toList b.toList = 0 by rw [V.cmpS, if_neg (by rw [h]; decide), if_neg (by rw [h']; decide)]]
      have hn : (a.toList == b.toList) = true := by rw [V.less_tri _ _ h h']; simp
      go_enter Try.func26, Try.ntmps26
      go_wp2_with fail
      refine (isNaNs_any _ w).mono ?_
      rintro e w1 ⟨rfl, rfl⟩
      go_wp2_with fail
      refine (isNaNs_any _ w).mono ?_
      rintro e w1 ⟨rfl, rfl⟩
      go_wp2
      go_ret
      exact ⟨rfl, rfl⟩

end Go.Proofs.Ytepgefjehnjibaa
