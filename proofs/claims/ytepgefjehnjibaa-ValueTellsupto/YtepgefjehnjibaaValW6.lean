/-
  Walks of layer value: a value's string, as the document has it.
-/
import Derived.Test.YtepgefjehnjibaaValW5
namespace Go.Proofs.Ytepgefjehnjibaa
open Go.RowKit

set_option maxRecDepth 100000 in
set_option maxHeartbeats 1000000 in
theorem rput_any (t n : Int) (s : ByteArray) (w : World) (h0 : -9223372036854775808 ≤ n) (h1 : n ≤ 9223372036854775807) (hs : s.size ≤ 35184372088832) :
    Calls Try.prog 13 #[.agg #[.int .i64 t, .int .i64 n, .string s]] w fun e w' => e = .returned (.string ⟨(V.put t n s.data.toList).toArray⟩) ∧ Below w.heap.size w w' := by
  have hlen := M.hiB_len 8 (up n)
  have hta := M.text_len s.data.toList
  simp at hta
  have na : ¬ 9223372036854775807 < 1 + (M.text s.data.toList).length := by omega
  by_cases e1 : t = 1
  · rw [put13 (Or.inl e1)]
    subst e1
    have hcv : ∀ (W : World) (b : Nat), W.cell? ⟨b, 0, none⟩ = some (.int .u8 1) → (convert 40 9 (.slice (some ⟨b, 0, none⟩) 1 1)).run Try.prog W = .ok (.string ⟨#[tc 1]⟩) W := fun W b => conv_one W b 1
    go_enter Try.func13, Try.ntmps13
    go_wp2_with fail
    refine (rint_any n _ h0 h1).mono ?_
    rintro e w1 ⟨rfl, hb⟩
    have hb' := below_two (below_box2 (w := w)) hb
    go_wp2
    go_ret
    exact ⟨rfl, hb'⟩
  · by_cases e3 : t = 3
    · rw [put13 (Or.inr e3)]
      subst e3
      have hcv : ∀ (W : World) (b : Nat), W.cell? ⟨b, 0, none⟩ = some (.int .u8 3) → (convert 40 9 (.slice (some ⟨b, 0, none⟩) 1 1)).run Try.prog W = .ok (.string ⟨#[tc 3]⟩) W := fun W b => conv_one W b 3
      go_enter Try.func13, Try.ntmps13
      go_wp2_with fail
      refine (rint_any n _ h0 h1).mono ?_
      rintro e w1 ⟨rfl, hb⟩
      have hb' := below_two (below_box2 (w := w)) hb
      go_wp2
      go_ret
      exact ⟨rfl, hb'⟩
    · by_cases e2 : t = 2
      · subst e2
        rw [put2]
        have hcv : ∀ (W : World) (b : Nat), W.cell? ⟨b, 0, none⟩ = some (.int .u8 2) → (convert 40 9 (.slice (some ⟨b, 0, none⟩) 1 1)).run Try.prog W = .ok (.string ⟨#[tc 2]⟩) W := fun W b => conv_one W b 2
        go_enter Try.func13, Try.ntmps13
        go_wp2_with fail
        refine (rtext_any s _ hs).mono ?_
        rintro e w1 ⟨rfl, hb⟩
        have I1 := Below.cell hb (p := ⟨w.heap.size, 0, none⟩) (by simp; omega)
        have hb' := below_two (below_box2 (w := w)) hb
        go_wp2
        go_ret
        exact ⟨rfl, hb'⟩
      · rw [putno e1 e2 e3]
        have b1 : (t == 1) = false := by rw [beq_eq_false_iff_ne]; exact e1
        have b2 : (t == 2) = false := by rw [beq_eq_false_iff_ne]; exact e2
        have b3 : (t == 3) = false := by rw [beq_eq_false_iff_ne]; exact e3
        by_cases r0 : t < 0
        · have E : tc t = 255 := by unfold tc; rw [V.tb, if_neg (by omega)]; rfl
          rw [E]
          have hcv : ∀ (W : World) (b : Nat), W.cell? ⟨b, 0, none⟩ = some (.int .u8 255) → (convert 40 9 (.slice (some ⟨b, 0, none⟩) 1 1)).run Try.prog W = .ok (.string ⟨#[255]⟩) W := fun W b => conv_one W b 255
          go_enter Try.func13, Try.ntmps13
          go_wp2
          go_ret
          exact ⟨rfl, below_box2⟩
        · by_cases r1 : 255 < t
          · have E : tc t = 255 := by unfold tc; rw [V.tb, if_neg (by omega)]; rfl
            rw [E]
            have hcv : ∀ (W : World) (b : Nat), W.cell? ⟨b, 0, none⟩ = some (.int .u8 255) → (convert 40 9 (.slice (some ⟨b, 0, none⟩) 1 1)).run Try.prog W = .ok (.string ⟨#[255]⟩) W := fun W b => conv_one W b 255
            go_enter Try.func13, Try.ntmps13
            go_wp2
            go_ret
            exact ⟨rfl, below_box2⟩
          · obtain ⟨k, rfl⟩ := Int.eq_ofNat_of_zero_le (show 0 ≤ t by omega)
            have E : ((tc (k : Int)).toNat : Int) = k := by rw [← tc_nat, V.tb, if_pos (by omega)]; omega
            have hcv : ∀ (W : World) (b : Nat), W.cell? ⟨b, 0, none⟩ = some (.int .u8 (k : Int)) → (convert 40 9 (.slice (some ⟨b, 0, none⟩) 1 1)).run Try.prog W = .ok (.string ⟨#[tc (k : Int)]⟩) W := fun W b h => conv_one W b (tc (k : Int)) (by rw [E]; exact h)
            have hm : (k : Int) % 256 = k := by omega
            clear E
            go_enter Try.func13, Try.ntmps13
            go_wp2
            go_ret
            exact ⟨rfl, below_box2⟩

end Go.Proofs.Ytepgefjehnjibaa
