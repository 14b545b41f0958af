/-
  The law VdiskStays, walked, at whatever input.
-/
import Derived.Test.YtbnoocjhlofnoaaVdStaysW
namespace Go.Proofs.Ytbnoocjhlofnoaa
open Go.RowKit

section
variable {H : World → (Nat → Prop) → Value → D.Dk → Prop}

set_option maxRecDepth 100000 in
set_option maxHeartbeats 1000000 in
theorem stays_any (K : DiskOk H) (v v' : Value) (l more : List Deed) (lb : List UInt8) (w : World) (G : Nat → Prop) (hd : Deeds w G v l) (hd' : Deeds w G v' more) (hG : ∀ b, G b → b < w.heap.size) (hl : l.length ≤ 9223372036854775807) (hl' : more.length ≤ 9223372036854775807) (hlb : lb.length = 9) :
    Calls Try.prog 4 #[v, v', .agg (arr lb)] w fun e w' => e = .returned (.bool true) ∧ Below w.heap.size w w' := by
  have hba : Below w.heap.size w (w.alloc (.cells (arr lb) 45)) := (Below.refl _ _).alloc (Nat.le_refl _) _
  have hsz := arr_size lb
  have HD := Lib.hid hd
  have HD' := Lib.hid hd'
  cases hf : fewM l
  · obtain ⟨A, cap, rfl, hc, _⟩ := hd
    clear hd'
    go_enter Try.func4, Try.ntmps4
    go_wp2_with fail
    refine (vawake_any K _).mono ?_
    rintro e w1 ⟨rfl, hb1⟩
    have hb1' := below_two hba hb1
    have HF1 := Lib.hid (by have := few_any (.slice A l.length cap) l w1 G (HD.out.below hb1' hG) hl; rw [hf] at this; exact this)
    go_wp2_with fail
    refine HF1.out.mono ?_
    rintro e w1' ⟨rfl, rfl⟩
    go_wp2_with fail
    go_ret
    exact ⟨rfl, hb1'⟩
  · cases hf' : fewM more
    · obtain ⟨A, cap, rfl, hc, _⟩ := hd
      obtain ⟨A', cap', rfl, hc', _⟩ := hd'
      go_enter Try.func4, Try.ntmps4
      go_wp2_with fail
      refine (vawake_any K _).mono ?_
      rintro e w1 ⟨rfl, hb1⟩
      have hb1' := below_two hba hb1
      have HF1 := Lib.hid (by have := few_any (.slice A l.length cap) l w1 G (HD.out.below hb1' hG) hl; rw [hf] at this; exact this)
      have HF2 := Lib.hid (by have := few_any (.slice A' more.length cap') more w1 G (HD'.out.below hb1' hG) hl'; rw [hf'] at this; exact this)
      go_wp2_with fail
      refine HF1.out.mono ?_
      rintro e w1' ⟨rfl, rfl⟩
      go_wp2_with fail
      refine HF2.out.mono ?_
      rintro e w1' ⟨rfl, rfl⟩
      go_wp2_with fail
      go_ret
      exact ⟨rfl, hb1'⟩
    · exact stays_yes K v v' l more lb w G hd hd' hG hf hf' hlb
end

end Go.Proofs.Ytbnoocjhlofnoaa
