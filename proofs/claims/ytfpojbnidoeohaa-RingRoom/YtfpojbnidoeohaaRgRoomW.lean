/-
  The walk of the law RingRoom.
-/
import Derived.Test.YtfpojbnidoeohaaRgRun
namespace Go.Proofs.Ytfpojbnidoeohaa
open Go.RowKit

theorem rsteps_next (l : List Dd) : ∀ {r : G.Rg}, (∀ X ∈ l, X.rc.length ≤ 400) → (rsteps r l).next ≤ r.next + 8 * l.length := by
  induction l with
  | nil => intro r _; simp [rsteps]
  | cons X t ih =>
    intro r hX
    have h1 := ih (r := r.step X) (fun Y hY => hX Y (List.mem_cons_of_mem _ hY))
    have h2 : (r.step X).next ≤ r.next + 8 := by
      unfold G.Rg.step
      split
      · unfold G.Rg.append
        split
        · have := many_le (hX X (List.mem_cons_self ..))
          show r.next + R.many X.rc.length ≤ _
          omega
        · omega
      · split
        · unfold G.Rg.trunc
          split <;> (show r.next ≤ _; omega)
        · show r.next ≤ _; omega
    simp only [rsteps, List.foldl_cons, List.length_cons] at h1 ⊢
    omega
theorem rsteps_first (l : List Dd) : ∀ {r : G.Rg}, (rsteps r l).first = r.first ∧ (rsteps r l).many = r.many ∧ (rsteps r l).epoch = r.epoch := by
  induction l with
  | nil => intro r; exact ⟨rfl, rfl, rfl⟩
  | cons X t ih =>
    intro r
    have h1 := ih (r := r.step X)
    have h2 : (r.step X).first = r.first ∧ (r.step X).many = r.many ∧ (r.step X).epoch = r.epoch := by
      unfold G.Rg.step
      split
      · unfold G.Rg.append
        split <;> exact ⟨rfl, rfl, rfl⟩
      · split
        · unfold G.Rg.trunc
          split <;> exact ⟨rfl, rfl, rfl⟩
        · exact ⟨rfl, rfl, rfl⟩
    exact ⟨h1.1.trans h2.1, h1.2.1.trans h2.2.1, h1.2.2.trans h2.2.2⟩

section
variable {H : World → (Nat → Prop) → Value → D.Dk → Prop}

set_option maxRecDepth 100000 in
set_option maxHeartbeats 4000000 in
theorem room6_any (K : DiskOk H) (KF : FrameOk) (v vb : Value) (l : List Dd) (rec : List UInt8) (w : World) (Gd : Nat → Prop) (hd : Dds w Gd v l) (hB : SlB w Gd vb rec) (hG : ∀ b, Gd b → b < w.heap.size) (hl : l.length ≤ 9223372036854775807) (hrl : rec.length ≤ 9223372036854775807) :
    Calls Try.prog 6 #[v, vb] w fun e w' => e = .returned (.bool true) ∧ Below w.heap.size w w' := by
  have HA := Lib.hid (awake6_any K KF w)
  have HD := Lib.hid hd
  obtain ⟨A, cap, rfl, hc, _, _⟩ := hd
  obtain ⟨fw, hfw⟩ : ∃ fw, fw = few6 l := ⟨_, rfl⟩
  have HFE := Lib.hid hfw
  have HB := Lib.hid hB
  obtain ⟨Ab, capb, rfl, hcb⟩ := Sg_form hB
  clear hB
  go_enter Try.func6, Try.ntmps6
  go_wp2_with fail
  refine HA.out.mono ?_
  rintro e w1 ⟨rfl, hb1⟩
  have hs1 := hb1.size
  have HFw := Lib.hid (few6_any _ l w1 Gd (HD.out.below hb1 hG) hl)
  rw [← hfw] at HFw
  clear hfw HA
  go_wp2_with fail
  refine HFw.out.mono ?_
  rintro e w1' ⟨rfl, rfl⟩
  clear HFw
  cases fw
  · go_wp2
    go_ret
    exact ⟨rfl, hb1⟩
  · by_cases h400 : 400 < rec.length
    · have h400' : (400 : Int) < (rec.length : Int) := by omega
      go_wp2
      go_ret
      exact ⟨rfl, hb1⟩
    · have h400' : ¬ (400 : Int) < (rec.length : Int) := by omega
      have hfew := few6_of HFE.out.symm
      have HRun := Lib.hid (run6_any K KF _ l w1 Gd (HD.out.below hb1 hG) (fun b g => Nat.lt_of_lt_of_le (hG b g) hs1) HFE.out.symm)
      go_wp2_with fail
      refine HRun.out.mono ?_
      rintro e w2 ⟨da, pa, vs, ve, F, Fs, rfl, hP, hF, hS, hE, hFs, hb2⟩
      have hs2 := hb2.size
      have hbw2 := below_two hb1 hb2
      clear HRun
      have hnx := rsteps_next l (r := rk0) hfew.2
      have hrow := rsteps_row l (r := rk0) rk0_may hfew.2
      have hmn : (rsteps rk0 l).many = 8 := (rsteps_first l (r := rk0)).2.1
      have h30 := hfew.1
      obtain ⟨r, hr⟩ : ∃ r, r = rsteps rk0 l := ⟨_, rfl⟩
      rw [← hr] at hP hnx hrow hmn
      have hnx' : r.next ≤ 240 := by have : rk0.next = 0 := rfl; omega
      have hrow' : r.d.row.length ≤ 240 := by have : rk0.d.row.length = 0 := rfl; omega
      clear hr hS hE hFs hnx hrow
      have HP := Lib.hid hP
      have HM := Lib.hid hP.may
      have hln := hP.may.ln
      have hnl := hP.may.nl
      have HFr := Lib.hid (ring_free hP)
      obtain ⟨fr, hfr⟩ : ∃ fr, fr = r.free := ⟨_, rfl⟩
      rw [← hfr] at HFr
      have HFR := Lib.hid hfr
      have hfl : fr ≤ 8 := by rw [hfr]; unfold G.Rg.free; omega
      clear hP hfr hmn
      go_wp2_with fail
      refine HFr.out.mono ?_
      rintro e w3 ⟨rfl, hb3⟩
      have hbw3 := below_two hbw2 hb3
      have HP3 := Lib.hid (HP.out.below K hb3)
      have HNe := Lib.hid (ring_next HP3.out)
      clear HFr HP hb3
      go_wp2_with fail
      refine HNe.out.mono ?_
      rintro e w4 ⟨rfl, hb4⟩
      have hbw4 := below_two hbw3 hb4
      have HP4 := Lib.hid (HP3.out.below K hb4)
      obtain ⟨Fd, _, hDk⟩ := HP4.out.disk
      have HPe := Lib.hid (K.pending hDk)
      obtain ⟨pd, hpd⟩ : ∃ pd, pd = r.d.row.length := ⟨_, rfl⟩
      rw [← hpd] at HPe hrow'
      have HPD := Lib.hid hpd
      clear HNe HP3 hb4 hDk hpd
      go_wp2_with fail
      refine HPe.out.mono ?_
      rintro e w5 ⟨rfl, hb5⟩
      have hbw5 := below_two hbw4 hb5
      have HAp := Lib.hid (ring_append K KF (HP4.out.below K hb5) (HB.out.below hbw5 hG) (fun b g => Nat.lt_of_lt_of_le (hG b g) hbw5.size) (by omega) (by have := HPD.out; omega))
      have hFw : ∀ b, F b → w.heap.size ≤ b := fun b g => Nat.le_trans hs1 (hF b g)
      obtain ⟨nd, hnd⟩ : ∃ nd, nd = R.many rec.length := ⟨_, rfl⟩
      have hnl8 : nd ≤ 8 := by rw [hnd]; exact many_le (by omega)
      have hn1 : 1 ≤ nd := by rw [hnd]; exact R.many_pos _
      have HNd := Lib.hid hnd
      have hcase : (((rec.length : Int) + 49) / 50 = 0 ∧ nd = 1) ∨ (((rec.length : Int) + 49) / 50 = 1 ∧ nd = 1) ∨ (((rec.length : Int) + 49) / 50 = (nd : Int) ∧ 1 < nd) := by
        rw [hnd]
        unfold R.many
        split <;> omega
      clear HPe HP4 hb5 hnd
      rcases hcase with ⟨hq, hq1⟩ | ⟨hq, hq1⟩ | ⟨hq, hq1⟩
      · subst hq1
        by_cases hfit : 1 ≤ fr
        · have HE : Hid (r.err rec = 0) := Lib.hid (by rw [G.Rg.err, if_neg (by have := HFR.out; have := HNd.out; omega), if_neg (by have := HNd.out; omega)])
          have HAE := Lib.hid (append_ok HE.out)
          have HTE : Hid (r.told rec = r.next + 1) := Lib.hid (by rw [told_ok HE.out, HNd.out])
          rw [HE.out, HTE.out, show ((r.next + 1 : Nat) : Int) = (r.next : Int) + (1 : Int) by omega] at HAp
          have hfit' : (1 : Int) ≤ (fr : Int) := by omega
          go_wp2_with fail
          refine HAp.out.mono ?_
          rintro e w6 ⟨rfl, hP6, ht6⟩
          have hbw6 := hbw5.trans (ht6.below hbw5.size hFw)
          rw [HAE.out] at hP6
          have HP6 := Lib.hid hP6
          have HNe : Hid (Calls Try.prog 17 #[.pointer (some pa)] w6 fun e w' => e = .returned (.int .u32 ((r.next : Int) + (1 : Int))) ∧ Below w6.heap.size w6 w') := Lib.hid (by
            have := ring_next hP6
            rw [show (((r.put rec).next : Nat) : Int) = (r.next : Int) + (1 : Int) by show ((r.next + R.many rec.length : Nat) : Int) = _; rw [← HNd.out]; omega] at this
            exact this)
          clear HAp hP6 ht6
          go_wp2_with fail
          refine HNe.out.mono ?_
          rintro e w7 ⟨rfl, hb7⟩
          have hbw7 := below_two hbw6 hb7
          have HP7 := Lib.hid (HP6.out.below K hb7)
          have HFr : Hid (Calls Try.prog 18 #[.pointer (some pa)] w7 fun e w' => e = .returned (.int .i64 ((fr : Int) - (1 : Int))) ∧ Below w7.heap.size w7 w') := Lib.hid (by
            have := ring_free HP7.out
            rw [show (((r.put rec).free : Nat) : Int) = (fr : Int) - (1 : Int) by
              have e1 := HFR.out
              have e2 : (r.put rec).free = r.many + r.low - (r.next + R.many rec.length) := rfl
              rw [e2, ← HNd.out]
              unfold G.Rg.free at e1
              omega] at this
            exact this)
          clear HNe HP6 hb7
          go_wp2_with fail
          refine HFr.out.mono ?_
          rintro e w8 ⟨rfl, hb8⟩
          have hbw8 := below_two hbw7 hb8
          obtain ⟨Fd, _, hDk⟩ := (HP7.out.below K hb8).disk
          have HPe : Hid (Calls Try.prog 22 #[.pointer (some da)] w8 fun e w' => e = .returned (.int .i64 ((pd : Int) + (1 : Int))) ∧ Below w8.heap.size w8 w') := Lib.hid (by
            have := K.pending hDk
            rw [show (((r.put rec).d.row.length : Nat) : Int) = (pd : Int) + (1 : Int) by rw [G.put_row HM.out, ← HNd.out, ← HPD.out]; omega] at this
            exact this)
          clear HFr HP7 hb8 hDk
          go_wp2_with fail
          refine HPe.out.mono ?_
          rintro e w9 ⟨rfl, hb9⟩
          have hbw9 := below_two hbw8 hb9
          go_wp2
          go_ret
          exact ⟨rfl, hbw9⟩
        · have HE : Hid (r.err rec = 3) := Lib.hid (by rw [G.Rg.err, if_pos (by have := HFR.out; have := HNd.out; omega)])
          have HAE := Lib.hid (append_no (r := r) (rec := rec) (by rw [HE.out]; decide))
          have HTE : Hid (r.told rec = 0) := Lib.hid (told_no (by rw [HE.out]; decide))
          rw [HE.out, HTE.out] at HAp
          have hfit' : ¬ (1 : Int) ≤ (fr : Int) := by omega
          go_wp2_with fail
          refine HAp.out.mono ?_
          rintro e w6 ⟨rfl, hP6, ht6⟩
          have hbw6 := hbw5.trans (ht6.below hbw5.size hFw)
          rw [HAE.out] at hP6
          have HP6 := Lib.hid hP6
          have HNe := Lib.hid (ring_next hP6)
          clear HAp hP6 ht6
          go_wp2_with fail
          refine HNe.out.mono ?_
          rintro e w7 ⟨rfl, hb7⟩
          have hbw7 := below_two hbw6 hb7
          obtain ⟨Fd, _, hDk⟩ := (HP6.out.below K hb7).disk
          have HPe := Lib.hid (K.pending hDk)
          rw [← HPD.out] at HPe
          clear HNe HP6 hb7 hDk
          go_wp2_with fail
          refine HPe.out.mono ?_
          rintro e w8 ⟨rfl, hb8⟩
          have hbw8 := below_two hbw7 hb8
          go_wp2
          go_ret
          exact ⟨rfl, hbw8⟩
      · subst hq1
        by_cases hfit : 1 ≤ fr
        · have HE : Hid (r.err rec = 0) := Lib.hid (by rw [G.Rg.err, if_neg (by have := HFR.out; have := HNd.out; omega), if_neg (by have := HNd.out; omega)])
          have HAE := Lib.hid (append_ok HE.out)
          have HTE : Hid (r.told rec = r.next + 1) := Lib.hid (by rw [told_ok HE.out, HNd.out])
          rw [HE.out, HTE.out, show ((r.next + 1 : Nat) : Int) = (r.next : Int) + (1 : Int) by omega] at HAp
          have hfit' : (1 : Int) ≤ (fr : Int) := by omega
          go_wp2_with fail
          refine HAp.out.mono ?_
          rintro e w6 ⟨rfl, hP6, ht6⟩
          have hbw6 := hbw5.trans (ht6.below hbw5.size hFw)
          rw [HAE.out] at hP6
          have HP6 := Lib.hid hP6
          have HNe : Hid (Calls Try.prog 17 #[.pointer (some pa)] w6 fun e w' => e = .returned (.int .u32 ((r.next : Int) + (1 : Int))) ∧ Below w6.heap.size w6 w') := Lib.hid (by
            have := ring_next hP6
            rw [show (((r.put rec).next : Nat) : Int) = (r.next : Int) + (1 : Int) by show ((r.next + R.many rec.length : Nat) : Int) = _; rw [← HNd.out]; omega] at this
            exact this)
          clear HAp hP6 ht6
          go_wp2_with fail
          refine HNe.out.mono ?_
          rintro e w7 ⟨rfl, hb7⟩
          have hbw7 := below_two hbw6 hb7
          have HP7 := Lib.hid (HP6.out.below K hb7)
          have HFr : Hid (Calls Try.prog 18 #[.pointer (some pa)] w7 fun e w' => e = .returned (.int .i64 ((fr : Int) - (1 : Int))) ∧ Below w7.heap.size w7 w') := Lib.hid (by
            have := ring_free HP7.out
            rw [show (((r.put rec).free : Nat) : Int) = (fr : Int) - (1 : Int) by
              have e1 := HFR.out
              have e2 : (r.put rec).free = r.many + r.low - (r.next + R.many rec.length) := rfl
              rw [e2, ← HNd.out]
              unfold G.Rg.free at e1
              omega] at this
            exact this)
          clear HNe HP6 hb7
          go_wp2_with fail
          refine HFr.out.mono ?_
          rintro e w8 ⟨rfl, hb8⟩
          have hbw8 := below_two hbw7 hb8
          obtain ⟨Fd, _, hDk⟩ := (HP7.out.below K hb8).disk
          have HPe : Hid (Calls Try.prog 22 #[.pointer (some da)] w8 fun e w' => e = .returned (.int .i64 ((pd : Int) + (1 : Int))) ∧ Below w8.heap.size w8 w') := Lib.hid (by
            have := K.pending hDk
            rw [show (((r.put rec).d.row.length : Nat) : Int) = (pd : Int) + (1 : Int) by rw [G.put_row HM.out, ← HNd.out, ← HPD.out]; omega] at this
            exact this)
          clear HFr HP7 hb8 hDk
          go_wp2_with fail
          refine HPe.out.mono ?_
          rintro e w9 ⟨rfl, hb9⟩
          have hbw9 := below_two hbw8 hb9
          go_wp2
          go_ret
          exact ⟨rfl, hbw9⟩
        · have HE : Hid (r.err rec = 3) := Lib.hid (by rw [G.Rg.err, if_pos (by have := HFR.out; have := HNd.out; omega)])
          have HAE := Lib.hid (append_no (r := r) (rec := rec) (by rw [HE.out]; decide))
          have HTE : Hid (r.told rec = 0) := Lib.hid (told_no (by rw [HE.out]; decide))
          rw [HE.out, HTE.out] at HAp
          have hfit' : ¬ (1 : Int) ≤ (fr : Int) := by omega
          go_wp2_with fail
          refine HAp.out.mono ?_
          rintro e w6 ⟨rfl, hP6, ht6⟩
          have hbw6 := hbw5.trans (ht6.below hbw5.size hFw)
          rw [HAE.out] at hP6
          have HP6 := Lib.hid hP6
          have HNe := Lib.hid (ring_next hP6)
          clear HAp hP6 ht6
          go_wp2_with fail
          refine HNe.out.mono ?_
          rintro e w7 ⟨rfl, hb7⟩
          have hbw7 := below_two hbw6 hb7
          obtain ⟨Fd, _, hDk⟩ := (HP6.out.below K hb7).disk
          have HPe := Lib.hid (K.pending hDk)
          rw [← HPD.out] at HPe
          clear HNe HP6 hb7 hDk
          go_wp2_with fail
          refine HPe.out.mono ?_
          rintro e w8 ⟨rfl, hb8⟩
          have hbw8 := below_two hbw7 hb8
          go_wp2
          go_ret
          exact ⟨rfl, hbw8⟩
      · have hm1 : (1 : Int) < (nd : Int) := by omega
        have hm2 : (1 : Int) ≤ (nd : Int) := by omega
        have hm3 : ¬ (nd : Int) < 1 := by omega
        have hm4 : ¬ (nd : Int) ≤ 1 := by omega
        by_cases hfit : nd ≤ fr
        · have HE : Hid (r.err rec = 0) := Lib.hid (by rw [G.Rg.err, if_neg (by have := HFR.out; have := HNd.out; omega), if_neg (by have := HNd.out; omega)])
          have HAE := Lib.hid (append_ok HE.out)
          have HTE : Hid (r.told rec = r.next + nd) := Lib.hid (by rw [told_ok HE.out, HNd.out])
          rw [HE.out, HTE.out, show ((r.next + nd : Nat) : Int) = (r.next : Int) + (nd : Int) by omega] at HAp
          have hfit' : (nd : Int) ≤ (fr : Int) := by omega
          go_wp2_with fail
          refine HAp.out.mono ?_
          rintro e w6 ⟨rfl, hP6, ht6⟩
          have hbw6 := hbw5.trans (ht6.below hbw5.size hFw)
          rw [HAE.out] at hP6
          have HP6 := Lib.hid hP6
          have HNe : Hid (Calls Try.prog 17 #[.pointer (some pa)] w6 fun e w' => e = .returned (.int .u32 ((r.next : Int) + (nd : Int))) ∧ Below w6.heap.size w6 w') := Lib.hid (by
            have := ring_next hP6
            rw [show (((r.put rec).next : Nat) : Int) = (r.next : Int) + (nd : Int) by show ((r.next + R.many rec.length : Nat) : Int) = _; rw [← HNd.out]; omega] at this
            exact this)
          clear HAp hP6 ht6
          go_wp2_with fail
          refine HNe.out.mono ?_
          rintro e w7 ⟨rfl, hb7⟩
          have hbw7 := below_two hbw6 hb7
          have HP7 := Lib.hid (HP6.out.below K hb7)
          have HFr : Hid (Calls Try.prog 18 #[.pointer (some pa)] w7 fun e w' => e = .returned (.int .i64 ((fr : Int) - (nd : Int))) ∧ Below w7.heap.size w7 w') := Lib.hid (by
            have := ring_free HP7.out
            rw [show (((r.put rec).free : Nat) : Int) = (fr : Int) - (nd : Int) by
              have e1 := HFR.out
              have e2 : (r.put rec).free = r.many + r.low - (r.next + R.many rec.length) := rfl
              rw [e2, ← HNd.out]
              unfold G.Rg.free at e1
              omega] at this
            exact this)
          clear HNe HP6 hb7
          go_wp2_with fail
          refine HFr.out.mono ?_
          rintro e w8 ⟨rfl, hb8⟩
          have hbw8 := below_two hbw7 hb8
          obtain ⟨Fd, _, hDk⟩ := (HP7.out.below K hb8).disk
          have HPe : Hid (Calls Try.prog 22 #[.pointer (some da)] w8 fun e w' => e = .returned (.int .i64 ((pd : Int) + (nd : Int))) ∧ Below w8.heap.size w8 w') := Lib.hid (by
            have := K.pending hDk
            rw [show (((r.put rec).d.row.length : Nat) : Int) = (pd : Int) + (nd : Int) by rw [G.put_row HM.out, ← HNd.out, ← HPD.out]; omega] at this
            exact this)
          clear HFr HP7 hb8 hDk
          go_wp2_with fail
          refine HPe.out.mono ?_
          rintro e w9 ⟨rfl, hb9⟩
          have hbw9 := below_two hbw8 hb9
          go_wp2
          go_ret
          exact ⟨rfl, hbw9⟩
        · have HE : Hid (r.err rec = 3) := Lib.hid (by rw [G.Rg.err, if_pos (by have := HFR.out; have := HNd.out; omega)])
          have HAE := Lib.hid (append_no (r := r) (rec := rec) (by rw [HE.out]; decide))
          have HTE : Hid (r.told rec = 0) := Lib.hid (told_no (by rw [HE.out]; decide))
          rw [HE.out, HTE.out] at HAp
          have hfit' : ¬ (nd : Int) ≤ (fr : Int) := by omega
          go_wp2_with fail
          refine HAp.out.mono ?_
          rintro e w6 ⟨rfl, hP6, ht6⟩
          have hbw6 := hbw5.trans (ht6.below hbw5.size hFw)
          rw [HAE.out] at hP6
          have HP6 := Lib.hid hP6
          have HNe := Lib.hid (ring_next hP6)
          clear HAp hP6 ht6
          go_wp2_with fail
          refine HNe.out.mono ?_
          rintro e w7 ⟨rfl, hb7⟩
          have hbw7 := below_two hbw6 hb7
          obtain ⟨Fd, _, hDk⟩ := (HP6.out.below K hb7).disk
          have HPe := Lib.hid (K.pending hDk)
          rw [← HPD.out] at HPe
          clear HNe HP6 hb7 hDk
          go_wp2_with fail
          refine HPe.out.mono ?_
          rintro e w8 ⟨rfl, hb8⟩
          have hbw8 := below_two hbw7 hb8
          go_wp2
          go_ret
          exact ⟨rfl, hbw8⟩
end

end Go.Proofs.Ytfpojbnidoeohaa
