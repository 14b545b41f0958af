/-
  Walks of layer value: a value's string, by the program and by the document.
-/
import Derived.Test.YtepgefjehnjibaaValW4
namespace Go.Proofs.Ytepgefjehnjibaa
open Go.RowKit

def tc (t : Int) : UInt8 := UInt8.ofNat (V.tb t)

theorem tc_nat (t : Int) : V.tb t = (tc t).toNat := by
  have := V.tb_lt t
  unfold tc; rw [UInt8.toNat_ofNat', Nat.mod_eq_of_lt (by omega)]

theorem typeByte_c (t : Int) (w : World) : Calls Try.prog 18 #[.int .i64 t] w fun e w' => e = .returned (.int .u8 ((tc t).toNat : Int)) ∧ w = w' := by
  have := typeByte_any t w; rw [tc_nat] at this; exact this

theorem put13 {t n : Int} {s : ByteArray} (h : t = 1 ∨ t = 3) : (⟨(V.put t n s.data.toList).toArray⟩ : ByteArray) = (⟨#[tc t]⟩ : ByteArray) ++ ⟨(M.hiB 8 (up n)).toArray⟩ := by
  have := ba_append [tc t] (M.hiB 8 (up n))
  rw [V.put, V.body, if_pos h]; exact this.symm
theorem put2 {n : Int} {s : ByteArray} : (⟨(V.put 2 n s.data.toList).toArray⟩ : ByteArray) = (⟨#[tc 2]⟩ : ByteArray) ++ ⟨(M.text s.data.toList).toArray⟩ := by
  have := ba_append [tc 2] (M.text s.data.toList)
  rw [V.put, V.body, if_neg (by decide), if_pos rfl]; exact this.symm
theorem putno {t n : Int} {s : ByteArray} (h1 : ¬ t = 1) (h2 : ¬ t = 2) (h3 : ¬ t = 3) : (⟨(V.put t n s.data.toList).toArray⟩ : ByteArray) = (⟨#[tc t]⟩ : ByteArray) := by
  rw [V.put, V.body, if_neg (by omega), if_neg h2]; rfl

set_option maxRecDepth 100000 in
set_option maxHeartbeats 1000000 in
theorem put_any (t n : Int) (s : ByteArray) (w : World) (h0 : -9223372036854775808 ≤ n) (h1 : n ≤ 9223372036854775807) (hs : s.size ≤ 35184372088832) :
    Calls Try.prog 12 #[.agg #[.int .i64 t, .int .i64 n, .string s]] w fun e w' => e = .returned (.string ⟨(V.put t n s.data.toList).toArray⟩) ∧ Below w.heap.size w w' := by
  have hcv := fun W b => conv_one W b (tc t)
  have HT := Lib.hid (fun w => typeByte_c t w)
  have hlen := M.hiB_len 8 (up n)
  have hta := M.text_len s.data.toList
  simp at hta
  have na : ¬ 9223372036854775807 < 1 + (M.text s.data.toList).length := by omega
  by_cases e1 : t = 1
  · rw [put13 (Or.inl e1)]
    subst e1
    go_enter Try.func12, Try.ntmps12
    go_wp2_with fail
    refine (HT.out _).mono ?_
    rintro e w1 ⟨rfl, rfl⟩
    go_wp2_with fail
    refine (int_any n _ h0 h1).mono ?_
    rintro e w1 ⟨rfl, hb⟩
    have hb' := below_two (below_box2 (w := w)) hb
    go_wp2
    go_ret
    exact ⟨rfl, hb'⟩
  · by_cases e3 : t = 3
    · rw [put13 (Or.inr e3)]
      subst e3
      go_enter Try.func12, Try.ntmps12
      go_wp2_with fail
      refine (HT.out _).mono ?_
      rintro e w1 ⟨rfl, rfl⟩
      go_wp2_with fail
      refine (int_any n _ h0 h1).mono ?_
      rintro e w1 ⟨rfl, hb⟩
      have hb' := below_two (below_box2 (w := w)) hb
      go_wp2
      go_ret
      exact ⟨rfl, hb'⟩
    · by_cases e2 : t = 2
      · subst e2
        rw [put2]
        go_enter Try.func12, Try.ntmps12
        go_wp2_with fail
        refine (HT.out _).mono ?_
        rintro e w1 ⟨rfl, rfl⟩
        go_wp2_with fail
        refine (text_any s _ hs).mono ?_
        rintro e w1 ⟨rfl, hb⟩
        have hb' := below_two (below_box2 (w := w)) hb
        go_wp2
        go_ret
        exact ⟨rfl, hb'⟩
      · rw [putno e1 e2 e3]
        go_enter Try.func12, Try.ntmps12
        go_wp2_with fail
        refine (HT.out _).mono ?_
        rintro e w1 ⟨rfl, rfl⟩
        go_wp2
        go_ret
        exact ⟨rfl, below_box2⟩

end Go.Proofs.Ytepgefjehnjibaa
