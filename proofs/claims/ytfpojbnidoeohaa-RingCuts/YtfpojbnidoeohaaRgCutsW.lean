/-
  The walk of the law RingCuts.
-/
import Derived.Test.YtfpojbnidoeohaaRgRun
namespace Go.Proofs.Ytfpojbnidoeohaa
open Go.RowKit

section
variable {H : World → (Nat → Prop) → Value → D.Dk → Prop}

set_option maxRecDepth 100000 in
set_option maxHeartbeats 4000000 in
theorem cuts6_any (K : DiskOk H) (KF : FrameOk) (v : Value) (l : List Dd) (to : Nat) (hto : to < 256) (w : World) (Gd : Nat → Prop) (hd : Dds w Gd v l) (hG : ∀ b, Gd b → b < w.heap.size) (hl : l.length ≤ 9223372036854775807) :
    Calls Try.prog 7 #[v, .int .u8 (to : Int)] w fun e w' => e = .returned (.bool true) ∧ Below w.heap.size w w' := by
  have HA := Lib.hid (awake6_any K KF w)
  have HD := Lib.hid hd
  obtain ⟨A, cap, rfl, hc, _, _⟩ := hd
  obtain ⟨fw, hfw⟩ : ∃ fw, fw = few6 l := ⟨_, rfl⟩
  have HFE := Lib.hid hfw
  go_enter Try.func7, Try.ntmps7
  go_wp2_with fail
  refine HA.out.mono ?_
  rintro e w1 ⟨rfl, hb1⟩
  have hs1 := hb1.size
  have HFw := Lib.hid (few6_any _ l w1 Gd (HD.out.below hb1 hG) hl)
  rw [← hfw] at HFw
  clear hfw HA
  go_wp2_with fail
  refine HFw.out.mono ?_
  rintro e w1' ⟨rfl, rfl⟩
  clear HFw
  cases fw
  · go_wp2
    go_ret
    exact ⟨rfl, hb1⟩
  · have hfew := few6_of HFE.out.symm
    have HRun := Lib.hid (run6_any K KF _ l w1 Gd (HD.out.below hb1 hG) (fun b g => Nat.lt_of_lt_of_le (hG b g) hs1) HFE.out.symm)
    go_wp2_with fail
    refine HRun.out.mono ?_
    rintro e w2 ⟨da, pa, vs, ve, F, Fs, rfl, hP, hF, hS, hE, hFs, hb2⟩
    have hs2 := hb2.size
    have hbw2 := below_two hb1 hb2
    clear HRun
    obtain ⟨r, hr⟩ : ∃ r, r = rsteps rk0 l := ⟨_, rfl⟩
    rw [← hr] at hP
    clear hr hS hE hFs
    have HP := Lib.hid hP
    have hn := hP.num.n
    have hm := hP.num.m
    have hln := hP.may.ln
    have hnl := hP.may.nl
    have htop := hP.may.top
    have HLo := Lib.hid (ring_low hP)
    clear hP
    go_wp2_with fail
    refine HLo.out.mono ?_
    rintro e w3 ⟨rfl, hb3⟩
    have hbw3 := below_two hbw2 hb3
    have HP3 := Lib.hid (HP.out.below K hb3)
    have HNe := Lib.hid (ring_next HP3.out)
    clear HLo HP hb3
    go_wp2_with fail
    refine HNe.out.mono ?_
    rintro e w4 ⟨rfl, hb4⟩
    have hbw4 := below_two hbw3 hb4
    have HP4 := Lib.hid (HP3.out.below K hb4)
    have HFr := Lib.hid (ring_free HP4.out)
    obtain ⟨fr, hfr⟩ : ∃ fr, fr = r.free := ⟨_, rfl⟩
    rw [← hfr] at HFr
    have HFR := Lib.hid hfr
    have hfl : fr ≤ 1024 := by rw [hfr]; unfold G.Rg.free; omega
    clear HNe HP3 hb4 hfr
    go_wp2_with fail
    refine HFr.out.mono ?_
    rintro e w5 ⟨rfl, hb5⟩
    have hbw5 := below_two hbw4 hb5
    have HTr := Lib.hid (ring_trunc K (HP4.out.below K hb5) to (by omega))
    have hFw : ∀ b, F b → w.heap.size ≤ b := fun b g => Nat.le_trans hs1 (hF b g)
    clear HFr HP4 hb5
    by_cases hcut : r.low < to ∧ to ≤ r.next
    · obtain ⟨hc1, hc2⟩ := hcut
      have hc1' : (r.low : Int) < (to : Int) := by omega
      have hc2' : (to : Int) ≤ (r.next : Int) := by omega
      have HTE := Lib.hid (show r.trunc to = { r with low := to } by rw [G.Rg.trunc, if_pos ⟨hc1, hc2⟩])
      clear hc1 hc2
      go_wp2_with fail
      refine HTr.out.mono ?_
      rintro e w6 ⟨rfl, hP6, ht6⟩
      have hbw6 := hbw5.trans (ht6.below hbw5.size hFw)
      rw [HTE.out] at hP6
      have HP6 := Lib.hid hP6
      have HLo : Hid (Calls Try.prog 16 #[.pointer (some pa)] w6 fun e w' => e = .returned (.int .u32 (to : Int)) ∧ Below w6.heap.size w6 w') := Lib.hid (ring_low hP6)
      clear HTr hP6 ht6
      go_wp2_with fail
      refine HLo.out.mono ?_
      rintro e w7 ⟨rfl, hb7⟩
      have hbw7 := below_two hbw6 hb7
      have HP7 := Lib.hid (HP6.out.below K hb7)
      have HNe : Hid (Calls Try.prog 17 #[.pointer (some pa)] w7 fun e w' => e = .returned (.int .u32 (r.next : Int)) ∧ Below w7.heap.size w7 w') := Lib.hid (by have h := ring_next HP7.out; exact h)
      clear HLo HP6 hb7
      go_wp2_with fail
      refine HNe.out.mono ?_
      rintro e w8 ⟨rfl, hb8⟩
      have hbw8 := below_two hbw7 hb8
      obtain ⟨f2, hf2⟩ : ∃ f2, f2 = ({ r with low := to } : G.Rg).free := ⟨_, rfl⟩
      have HFr := Lib.hid (ring_free (HP7.out.below K hb8))
      rw [← hf2] at HFr
      have hq : (f2 : Int) = (fr : Int) + ((to : Int) - (r.low : Int)) := by
        have e1 := HFR.out
        unfold G.Rg.free at e1 hf2
        simp only at hf2
        omega
      have hq2 : (to : Int) - (r.low : Int) ≤ 1024 := by omega
      clear HNe HP7 hb8 hf2
      go_wp2_with fail
      refine HFr.out.mono ?_
      rintro e w9 ⟨rfl, hb9⟩
      have hbw9 := below_two hbw8 hb9
      go_wp2
      go_ret
      exact ⟨rfl, hbw9⟩
    · have HTE := Lib.hid (show r.trunc to = r by rw [G.Rg.trunc, if_neg hcut])
      have hcc : ¬ (r.low : Int) < (to : Int) ∨ ((r.low : Int) < (to : Int) ∧ ¬ (to : Int) ≤ (r.next : Int)) := by omega
      clear hcut
      rcases hcc with hc1 | ⟨hc1, hc2⟩
      all_goals
        go_wp2_with fail
        refine HTr.out.mono ?_
        rintro e w6 ⟨rfl, hP6, ht6⟩
        have hbw6 := hbw5.trans (ht6.below hbw5.size hFw)
        rw [HTE.out] at hP6
        have HP6 := Lib.hid hP6
        have HLo := Lib.hid (ring_low hP6)
        clear HTr hP6 ht6
        go_wp2_with fail
        refine HLo.out.mono ?_
        rintro e w7 ⟨rfl, hb7⟩
        have hbw7 := below_two hbw6 hb7
        have HP7 := Lib.hid (HP6.out.below K hb7)
        have HNe := Lib.hid (ring_next HP7.out)
        clear HLo HP6 hb7
        go_wp2_with fail
        refine HNe.out.mono ?_
        rintro e w8 ⟨rfl, hb8⟩
        have hbw8 := below_two hbw7 hb8
        have HFr := Lib.hid (ring_free (HP7.out.below K hb8))
        rw [← HFR.out] at HFr
        clear HNe HP7 hb8
        go_wp2_with fail
        refine HFr.out.mono ?_
        rintro e w9 ⟨rfl, hb9⟩
        have hbw9 := below_two hbw8 hb9
        go_wp2
        go_ret
        exact ⟨rfl, hbw9⟩
end

end Go.Proofs.Ytfpojbnidoeohaa
