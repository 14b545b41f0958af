/-
  The law VdiskPlays, walked, at whatever input.
-/
import Derived.Test.YtbnoocjhlofnoaaVdLaw8
namespace Go.Proofs.Ytbnoocjhlofnoaa
open Go.RowKit

section
variable {H : World → (Nat → Prop) → Value → D.Dk → Prop}

set_option maxRecDepth 100000 in
set_option maxHeartbeats 1000000 in
theorem plays_any (K : DiskOk H) (n : Int) (v : Value) (l : List Deed) (w : World) (G : Nat → Prop) (hd : Deeds w G v l) (hG : ∀ b, G b → b < w.heap.size) (hl : l.length ≤ 9223372036854775807) :
    Calls Try.prog 3 #[.int .i64 n, v] w fun e w' => e = .returned (.bool true) ∧ Below w.heap.size w w' := by
  by_cases h1 : n < 1
  · have HN := Lib.hid (fun w => K.no n w (Or.inl h1))
    have b1 : decide (n < 1) = true := decide_eq_true h1
    go_enter Try.func3, Try.ntmps3
    go_wp2_with fail
    refine (vawake_any K w).mono ?_
    rintro e w0 ⟨rfl, hb0⟩
    go_wp2_with fail
    refine (HN.out w0).mono ?_
    rintro e w1 ⟨rfl, hb1⟩
    have hb := below_two hb0 hb1
    go_wp2_with fail
    go_ret
    exact ⟨rfl, hb⟩
  · by_cases h2 : 1024 < n
    · have HN := Lib.hid (fun w => K.no n w (Or.inr h2))
      have b1 : decide (n < 1) = false := decide_eq_false h1
      have b2 : decide (1024 < n) = true := decide_eq_true h2
      go_enter Try.func3, Try.ntmps3
      go_wp2_with fail
      refine (vawake_any K w).mono ?_
      rintro e w0 ⟨rfl, hb0⟩
      go_wp2_with fail
      refine (HN.out w0).mono ?_
      rintro e w1 ⟨rfl, hb1⟩
      have hb := below_two hb0 hb1
      go_wp2_with fail
      go_ret
      exact ⟨rfl, hb⟩
    · obtain ⟨m, rfl⟩ := Int.eq_ofNat_of_zero_le (show 0 ≤ n by omega)
      cases hf : fewM l
      · have HD := Lib.hid hd
        obtain ⟨A, cap, rfl, hc, _⟩ := hd
        go_enter Try.func3, Try.ntmps3
        go_wp2_with fail
        refine (vawake_any K w).mono ?_
        rintro e w0 ⟨rfl, hb0⟩
        have HN := Lib.hid (K.new m w0 (by omega) (by omega))
        go_wp2_with fail
        refine HN.out.mono ?_
        rintro e w1 ⟨p, rfl, hH1, hb1⟩
        obtain ⟨pa, rfl⟩ := K.ptr hH1
        have HW := Lib.hid (by have := few_any (.slice A l.length cap) l w1 G ((HD.out.below hb0 hG).below hb1 (fun b h => Nat.lt_of_lt_of_le (hG b h) hb0.size)) hl; rw [hf] at this; exact this)
        have hb := below_two hb0 hb1
        clear HN
        go_wp2_with fail
        refine HW.out.mono ?_
        rintro e w1' ⟨rfl, rfl⟩
        go_wp2_with fail
        go_ret
        exact ⟨rfl, hb⟩
      · exact plays_yes K m v l w G hd hG hf (by omega) (by omega)
end

end Go.Proofs.Ytbnoocjhlofnoaa
