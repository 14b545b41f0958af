/-
  Walks of layer slot's laws: SlotNone.
-/
import Derived.Test.YtbjbnjpdackloaaSoRow
namespace Go.Proofs.Ytbjbnjpdackloaa
open Go.RowKit

section
variable {H : World → (Nat → Prop) → Value → D.Dk → Prop}

set_option maxRecDepth 100000 in
set_option maxHeartbeats 4000000 in
theorem SlotNone_walk (K : DiskOk H) (KF : FrameOk) (w : World) (first size : Int) (hf0 : -9223372036854775808 ≤ first) (hf1 : first ≤ 9223372036854775807) (hm0 : -9223372036854775808 ≤ size) (hm1 : size ≤ 9223372036854775807) (vb : Value) (b : List UInt8) (Gb : Nat → Prop) (hB : SlB w Gb vb b) (hbl : b.length ≤ 9223372036854775807) :
    Calls Try.prog 7 #[.agg #[.int .i64 first, .int .i64 size], vb] w fun e w' => e = .returned (.bool true) ∧ Below w.heap.size w w' := by
  obtain ⟨Ab, capb, rfl, hcb⟩ := Sg_form hB
  clear hB
  have HA := Lib.hid (awake8_any K KF (w.alloc (.cells #[.int .i64 first, .int .i64 size] 23)))
  go_enter Try.func7, Try.ntmps7
  have P0 := Bk.new w [.int .i64 first, .int .i64 size] 23 rfl
  have hb0 : Below w.heap.size w (w.alloc (.cells #[.int .i64 first, .int .i64 size] 23)) := (Below.refl _ _).alloc (Nat.le_refl _) _
  go_wp2_with fail
  refine HA.out.mono ?_
  rintro e w1 ⟨rfl, hb1⟩
  have P1 := P0.step hb1
  have hb1 : Below w.heap.size w w1 := below_two hb0 hb1
  clear P0 hb0
  have HN := Lib.hid (K.new 12 w1 (by decide) (by decide))
  clear HA
  go_wp2_with fail
  refine HN.out.mono ?_
  rintro e w2 ⟨vd, rfl, hH2, hb2⟩
  obtain ⟨da, rfl⟩ := K.ptr hH2
  have HH2 : Hid (H w2 (S.New w1 w2) (.pointer (some da)) newD8) := Lib.hid hH2
  have hs1 := hb1.size
  have hbw2 := below_two hb1 hb2
  have hF2 : ∀ b, S.New w1 w2 b → w.heap.size ≤ b := fun b g => Nat.le_trans hs1 g.1
  generalize S.New w1 w2 = F2 at *
  have HP2 := Lib.hid (P1.step hb2)
  have hpl : w.heap.size < w1.heap.size := P1.lt
  clear HN hH2 hb1 hb2 P1
  by_cases h200 : 200 < b.length
  · have h200' : (200 : Int) < (b.length : Int) := by omega
    go_wp2
    go_ret
    exact ⟨rfl, hbw2⟩
  have h200' : ¬ (200 : Int) < (b.length : Int) := by omega
  have HA2 := Lib.hid (area_any w2)
  go_wp2_with fail
  refine HA2.out.mono ?_
  rintro e w3 ⟨rfl, hb3⟩
  have hbw3 := below_two hbw2 hb3
  clear HA2
  have HL := Lib.hid (ld8 K KF (K.below HH2.out hb3) new8_len none (sb0_st.load))
  go_wp2_with fail
  refine HL.out.mono ?_
  rintro e w4 ⟨v4, rfl, hB4, hb4⟩
  obtain ⟨A4, cap4, rfl, hc4⟩ := Sg_form hB4
  have hbw4 := below_two hbw3 hb4
  have HH4 := Lib.hid (K.below (K.below HH2.out hb3) hb4)
  have HP4 := Lib.hid ((HP2.out.step hb3).step hb4)
  clear HL hB4 hb3 hb4 HH2 HP2
  have HA4 := Lib.hid (area_any w4)
  go_wp2_with fail
  refine HA4.out.mono ?_
  rintro e w5 ⟨rfl, hb5⟩
  have hbw5 := below_two hbw4 hb5
  clear HA4
  have hsl5 : ∃ A m c, Value.slice Ab b.length capb = .slice A m c := ⟨_, _, _, rfl⟩
  have HS := Lib.hid (save_zero hsl5 (LenIs.of K (K.below HH4.out hb5)) (by rw [new8_len]; decide) (first := 1) (size := 4) (by decide) (by decide) (by decide) (by decide) (by rw [new8_len]; rfl))
  go_wp2_with fail
  refine HS.out.mono ?_
  rintro e w6 ⟨rfl, hb6⟩
  have hbw6 := below_two hbw5 hb6
  have HH6 := Lib.hid (K.below (K.below HH4.out hb5) hb6)
  have HP6 := Lib.hid ((HP4.out.step hb5).step hb6)
  clear HS hb5 hb6 HH4 HP4
  have h54 : loadI newD8 5 4 = none := by
    unfold loadI
    rw [if_neg (by rw [new8_len]; decide)]
  have hL := load_any K KF HH6.out (first := 5) (size := 4) (by decide) (by decide) (by decide) (by decide)
  rw [h54] at hL
  have HL := Lib.hid hL
  clear hL h54
  go_wp2_with fail
  refine HL.out.mono ?_
  rintro e w7 ⟨v7, rfl, hB7, hb7⟩
  obtain ⟨A7, cap7, rfl, hc7⟩ := Sg_form hB7
  have hbw7 := below_two hbw6 hb7
  have HH7 := Lib.hid (K.below HH6.out hb7)
  have HP7 := Lib.hid (HP6.out.step hb7)
  clear HL hB7 hb7 HH6 HP6
  have HS := Lib.hid (save_out hsl5 (LenIs.of K HH7.out) (by rw [new8_len]; decide) (first := 5) (size := 4) (gen := 1) (by decide) (by decide) (by decide) (by decide) (by rw [new8_len]; rfl))
  go_wp2_with fail
  refine HS.out.mono ?_
  rintro e w8 ⟨rfl, hb8⟩
  have hbw8 := below_two hbw7 hb8
  have HH8 := Lib.hid (K.below HH7.out hb8)
  have P8 := HP7.out.step hb8
  have c0 := P8.cell 0 _ rfl
  have c1 := P8.cell 1 _ rfl
  have HP8 := Lib.hid P8
  clear HS hb8 HH7 HP7 P8
  have HL := Lib.hid (load_nil w8 hf0 hf1 hm0 hm1)
  go_wp2_with fail
  refine HL.out.mono ?_
  rintro e w9 ⟨v9, rfl, hB9, hb9⟩
  obtain ⟨A9, cap9, rfl, hc9⟩ := Sg_form hB9
  have hbw9 := below_two hbw8 hb9
  have HH9 := Lib.hid (K.below HH8.out hb9)
  have P9 := HP8.out.step hb9
  clear c0 c1
  have c0 := P9.cell 0 _ rfl
  have c1 := P9.cell 1 _ rfl
  clear HL hB9 hb9 HH8 HP8 P9
  have HS := Lib.hid (save_nil w9 (gen := 1) hf0 hf1 hm0 hm1 hsl5)
  go_wp2_with fail
  refine HS.out.mono ?_
  rintro e wa ⟨rfl, hba⟩
  have hbwa := below_two hbw9 hba
  have HP := Lib.hid (K.pending (K.below HH9.out hba))
  clear HS hba HH9 c0 c1
  go_wp2_with fail
  refine HP.out.mono ?_
  rintro e wb ⟨rfl, hbb⟩
  rw [show ((newD8.row.length : Nat) : Int) = 0 from rfl]
  go_wp2
  go_ret
  exact ⟨rfl, below_two hbwa hbb⟩
end

end Go.Proofs.Ytbjbnjpdackloaa
