/-
  The walk of the law RingNobody.
-/
import Derived.Test.YtfpojbnidoeohaaRgLaw4
namespace Go.Proofs.Ytfpojbnidoeohaa
open Go.RowKit

section
variable {H : World → (Nat → Prop) → Value → D.Dk → Prop}

/-- a ring that may not be -/
theorem ring_new_no (K : DiskOk H) {w : World} {F : Nat → Prop} {vd : Value} {d : D.Dk} (h : H w F vd d) (first many : Int) (epoch low next : Nat) (hf0 : -9223372036854775808 ≤ first) (hf1 : first ≤ 9223372036854775807) (hm0 : -9223372036854775808 ≤ many) (hm1 : many ≤ 9223372036854775807) (he : epoch < 4294967296) (hl : low < 4294967296) (hx : next < 4294967296) (hno : mayB d.secs.length first many low next = false) :
    Calls Try.prog 11 #[vd, .agg #[.int .i64 first, .int .i64 many, .int .u32 (epoch : Int)], .int .u32 (low : Int), .int .u32 (next : Int)] w fun e w' => e = .returned (.pointer none) ∧ Below w.heap.size w w' := by
  refine (ring_new K h first many epoch low next hf0 hf1 hm0 hm1 he hl hx).mono ?_
  rintro e w' ⟨hb, ⟨_, rfl⟩ | ⟨h, _⟩⟩
  · exact ⟨rfl, hb⟩
  · rw [hno] at h; cases h

set_option maxRecDepth 100000 in
set_option maxHeartbeats 4000000 in
theorem nobody_any (K : DiskOk H) (KF : FrameOk) (w : World) (first many epoch next : Int) (low : Nat) (vb : Value) :
    Calls Try.prog 8 #[.agg #[.int .i64 first, .int .i64 many, .int .u32 epoch, .int .u32 (low : Int), .int .u32 next], vb] w fun e w' => e = .returned (.bool true) ∧ Below w.heap.size w w' := by
  have P0 := Bk.new w [.int .i64 first, .int .i64 many, .int .u32 epoch, .int .u32 (low : Int), .int .u32 next] 26 rfl
  have hb0 : Below w.heap.size w (w.alloc (.cells #[.int .i64 first, .int .i64 many, .int .u32 epoch, .int .u32 (low : Int), .int .u32 next] 26)) := (Below.refl _ _).alloc (Nat.le_refl _) _
  have HA := Lib.hid (awake6_any K KF (w.alloc (.cells #[.int .i64 first, .int .i64 many, .int .u32 epoch, .int .u32 (low : Int), .int .u32 next] 26)))
  go_enter Try.func8, Try.ntmps8
  go_wp2_with fail
  refine HA.out.mono ?_
  rintro e w1 ⟨rfl, hb1⟩
  have hw1 := below_two hb0 hb1
  have HP := Lib.hid (P0.step hb1)
  clear P0 HA hb0 hb1
  generalize w.heap.size = p at HP
  go_wp2_with fail
  refine ring_nil_append.mono ?_
  rintro e w2 ⟨rfl, hb2⟩
  have hw2 := below_two hw1 hb2
  have HP2 := Lib.hid (HP.out.step hb2)
  clear HP hb2
  go_wp2_with fail
  refine (ring_nil_trunc 5).mono ?_
  rintro e w3 ⟨rfl, hb3⟩
  have hw3 := below_two hw2 hb3
  have HP3 := Lib.hid (HP2.out.step hb3)
  have HN := Lib.hid (K.new 12 w3 (by decide) (by decide))
  clear HP2 hb3
  go_wp2_with fail
  refine HN.out.mono ?_
  rintro e w4 ⟨vd, rfl, hH4, hb4⟩
  obtain ⟨da, rfl⟩ := K.ptr hH4
  have hw4 := below_two hw3 hb4
  have HP4 := Lib.hid (HP3.out.step hb4)
  have HH4 := Lib.hid hH4
  clear HP3 hb4 HN hH4
  go_wp2_with fail
  refine (ring_new_nil 0 4 0 0 0).mono ?_
  rintro e w5 ⟨rfl, hb5⟩
  have hw5 := below_two hw4 hb5
  have HP5 := Lib.hid (HP4.out.step hb5)
  have HH5 := Lib.hid (K.below HH4.out hb5)
  have HC := Lib.hid (ring_new_no K HH5.out 9 4 0 0 0 (by decide) (by decide) (by decide) (by decide) (by decide) (by decide) (by decide) (by decide))
  clear HP4 hb5 HH4
  go_wp2_with fail
  refine HC.out.mono ?_
  rintro e w6 ⟨rfl, hb6⟩
  have hw6 := below_two hw5 hb6
  have HP6 := Lib.hid (HP5.out.step hb6)
  have HH6 := Lib.hid (K.below HH5.out hb6)
  have HC := Lib.hid (ring_new_no K HH6.out 0 4 0 5 4 (by decide) (by decide) (by decide) (by decide) (by decide) (by decide) (by decide) (by decide))
  clear HP5 hb6 HH5
  go_wp2_with fail
  refine HC.out.mono ?_
  rintro e w7 ⟨rfl, hb7⟩
  have hw7 := below_two hw6 hb7
  have HP7 := Lib.hid (HP6.out.step hb7)
  have HH7 := Lib.hid (K.below HH6.out hb7)
  have HC := Lib.hid (ring_new_no K HH7.out 0 4 0 0 5 (by decide) (by decide) (by decide) (by decide) (by decide) (by decide) (by decide) (by decide))
  clear HP6 hb7 HH6
  go_wp2_with fail
  refine HC.out.mono ?_
  rintro e w8 ⟨rfl, hb8⟩
  have hw8 := below_two hw7 hb8
  have HP8 := Lib.hid (HP7.out.step hb8)
  clear HP7 hb8 HH7 HC
  go_wp2_with fail
  refine ring_nil_low.mono ?_
  rintro e w9 ⟨rfl, hb9⟩
  have hw9 := below_two hw8 hb9
  have HP9 := Lib.hid (HP8.out.step hb9)
  clear HP8 hb9
  go_wp2_with fail
  refine ring_nil_next.mono ?_
  rintro e wa ⟨rfl, hba⟩
  have hwa := below_two hw9 hba
  have HPa := Lib.hid (HP9.out.step hba)
  clear HP9 hba
  go_wp2_with fail
  refine ring_nil_free.mono ?_
  rintro e wb ⟨rfl, hbb⟩
  have hwb := below_two hwa hbb
  have p3 := (HPa.out.step hbb).cell 3 _ rfl
  clear HPa hbb
  go_wp2_with fail
  refine (ring_at_none 0 0 low wb).mono ?_
  rintro e wc ⟨rfl, hbc⟩
  have hwc := below_two hwb hbc
  have HX : Hid (Calls Try.prog 29 #[.int .u32 1, .int .u32 1, .string ⟨#[]⟩] wc fun r w' => ∃ v, r = .returned v ∧ w'.ownsRow wc.heap.size 102 4 v (R.cut 1 1 []).length ((R.cut 1 1 []).flatMap frC) ∧ Below wc.heap.size wc w') := Lib.hid (rcut_any 1 1 [] wc (by decide) (by decide) (by decide))
  clear hbc p3
  go_wp2_with fail
  refine HX.out.mono ?_
  rintro e wd ⟨v, rfl, hown, hbd⟩
  have hwd := below_two hwc hbd
  obtain ⟨A, cap, rfl, hc⟩ := Sg_form (S.Sg.of_own hown)
  have hl1 : (R.cut 1 1 []).length = 1 := by decide
  rw [hl1] at hc ⊢
  clear hown HX
  go_wp2
  go_ret
  exact ⟨rfl, hwd⟩
end

end Go.Proofs.Ytfpojbnidoeohaa
