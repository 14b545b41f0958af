/-
  The walk of the law RingSpares.
-/
import Derived.Test.YtfpojbnidoeohaaRgRun
namespace Go.Proofs.Ytfpojbnidoeohaa
open Go.RowKit

theorem sp_next (l : List Dd) : ∀ {r : G.Rg}, (∀ X ∈ l, X.rc.length ≤ 400) → (rsteps r l).next ≤ r.next + 8 * l.length := by
  induction l with
  | nil => intro r _; simp [rsteps]
  | cons X t ih =>
    intro r hX
    have h1 := ih (r := r.step X) (fun Y hY => hX Y (List.mem_cons_of_mem _ hY))
    have h2 : (r.step X).next ≤ r.next + 8 := by
      unfold G.Rg.step
      split
      · unfold G.Rg.append
        split
        · have := many_le (hX X (List.mem_cons_self ..))
          show r.next + R.many X.rc.length ≤ _
          omega
        · omega
      · split
        · unfold G.Rg.trunc
          split <;> (show r.next ≤ _; omega)
        · show r.next ≤ _; omega
    simp only [rsteps, List.foldl_cons, List.length_cons] at h1 ⊢
    omega
theorem sp_first (l : List Dd) : ∀ {r : G.Rg}, (rsteps r l).first = r.first ∧ (rsteps r l).many = r.many ∧ (rsteps r l).epoch = r.epoch := by
  induction l with
  | nil => intro r; exact ⟨rfl, rfl, rfl⟩
  | cons X t ih =>
    intro r
    have h1 := ih (r := r.step X)
    have h2 : (r.step X).first = r.first ∧ (r.step X).many = r.many ∧ (r.step X).epoch = r.epoch := by
      unfold G.Rg.step
      split
      · unfold G.Rg.append
        split <;> exact ⟨rfl, rfl, rfl⟩
      · split
        · unfold G.Rg.trunc
          split <;> exact ⟨rfl, rfl, rfl⟩
        · exact ⟨rfl, rfl, rfl⟩
    exact ⟨h1.1.trans h2.1, h1.2.1.trans h2.2.1, h1.2.2.trans h2.2.2⟩

theorem rdV_in {d : D.Dk} {k : Nat} (hk : k < d.secs.length) {l : List UInt8} {e : Int} (h : rdV d (k : Int) = .tuple #[.string ⟨l.toArray⟩, .int .i64 e]) : l = d.read k ∧ e = 0 := by
  have ht : d.there (k : Int) := ⟨by omega, by omega⟩
  rw [rdV, if_pos ht, Int.toNat_natCast] at h
  simp at h
  exact ⟨h.1.symm, h.2.symm⟩

section
variable {H : World → (Nat → Prop) → Value → D.Dk → Prop}

set_option maxRecDepth 100000 in
set_option maxHeartbeats 8000000 in
theorem spares6_any (K : DiskOk H) (KF : FrameOk) (v vb : Value) (l : List Dd) (rec : List UInt8) (w : World) (Gd : Nat → Prop) (hd : Dds w Gd v l) (hB : SlB w Gd vb rec) (hG : ∀ b, Gd b → b < w.heap.size) (hl : l.length ≤ 9223372036854775807) (hrl : rec.length ≤ 9223372036854775807) :
    Calls Try.prog 5 #[v, vb] w fun e w' => e = .returned (.bool true) ∧ Below w.heap.size w w' := by
  have HA := Lib.hid (awake6_any K KF w)
  have HD := Lib.hid hd
  obtain ⟨A, cap, rfl, hc, _, _⟩ := hd
  obtain ⟨fw, hfw⟩ : ∃ fw, fw = few6 l := ⟨_, rfl⟩
  have HFE := Lib.hid hfw
  have HB := Lib.hid hB
  obtain ⟨Ab, capb, rfl, hcb⟩ := Sg_form hB
  clear hB
  go_enter Try.func5, Try.ntmps5
  go_wp2_with fail
  refine HA.out.mono ?_
  rintro e w1 ⟨rfl, hb1⟩
  have hs1 := hb1.size
  have HFw := Lib.hid (few6_any _ l w1 Gd (HD.out.below hb1 hG) hl)
  rw [← hfw] at HFw
  clear hfw HA
  go_wp2_with fail
  refine HFw.out.mono ?_
  rintro e w1' ⟨rfl, rfl⟩
  clear HFw
  cases fw
  · go_wp2
    go_ret
    exact ⟨rfl, hb1⟩
  · by_cases h400 : 400 < rec.length
    · have h400' : (400 : Int) < (rec.length : Int) := by omega
      go_wp2
      go_ret
      exact ⟨rfl, hb1⟩
    · have h400' : ¬ (400 : Int) < (rec.length : Int) := by omega
      have hfew := few6_of HFE.out.symm
      have HRun := Lib.hid (run6_any K KF _ l w1 Gd (HD.out.below hb1 hG) (fun b g => Nat.lt_of_lt_of_le (hG b g) hs1) HFE.out.symm)
      go_wp2_with fail
      refine HRun.out.mono ?_
      rintro e w2 ⟨da, pa, vs, ve, F, Fs, rfl, hP, hF, hS, hE, hFs, hb2⟩
      have hs2 := hb2.size
      have hbw2 := below_two hb1 hb2
      clear HRun
      have hnx := sp_next l (r := rk0) hfew.2
      have hrow := rsteps_row l (r := rk0) rk0_may hfew.2
      have hpl := sp_first l (r := rk0)
      have hsec : (rsteps rk0 l).d.secs.length = 12 := rsteps_secs l (r := rk0)
      have h30 := hfew.1
      obtain ⟨r, hr⟩ : ∃ r, r = rsteps rk0 l := ⟨_, rfl⟩
      rw [← hr] at hP hnx hrow hpl hsec
      have hnx' : r.next ≤ 240 := by have : rk0.next = 0 := rfl; omega
      have hrow' : r.d.row.length ≤ 240 := by have : rk0.d.row.length = 0 := rfl; omega
      have HR1 : Hid (r.first = 2 ∧ r.many = 8 ∧ r.d.secs.length = 12) := Lib.hid ⟨hpl.1, hpl.2.1, hsec⟩
      clear hr hS hE hFs hnx hrow hpl hsec
      have HP := Lib.hid hP
      have HM := Lib.hid hP.may
      have hln := hP.may.ln
      have hnl : r.next ≤ r.low + 8 := by have := hP.may.nl; have := HR1.out.2.1; omega
      have hFl := hP.lt
      obtain ⟨Fd, hFd, hDk⟩ := hP.disk
      have HCo := Lib.hid (K.copy hDk)
      clear hP hDk
      go_wp2_with fail
      refine HCo.out.mono ?_
      rintro e w3 ⟨vc, rfl, hC3, hb3⟩
      obtain ⟨ca, rfl⟩ := K.ptr hC3
      have hbw3 := below_two hbw2 hb3
      have HP3 := Lib.hid (HP.out.below K hb3)
      have HLo := Lib.hid (ring_low HP3.out)
      have HC3 := Lib.hid hC3
      have hs3 := hb3.size
      clear HCo HP hC3
      go_wp2_with fail
      refine HLo.out.mono ?_
      rintro e w4 ⟨rfl, hb4⟩
      have hbw4 := below_two hbw3 hb4
      have HP4 := Lib.hid (HP3.out.below K hb4)
      have HC4 := Lib.hid (K.below HC3.out hb4)
      have HNe := Lib.hid (ring_next HP4.out)
      clear HLo HP3 hb4 HC3
      go_wp2_with fail
      refine HNe.out.mono ?_
      rintro e w5 ⟨rfl, hb5⟩
      have hbw5 := below_two hbw4 hb5
      have HP5 := Lib.hid (HP4.out.below K hb5)
      have HC5 := Lib.hid (K.below HC4.out hb5)
      have HAp := Lib.hid (ring_append K KF HP5.out (HB.out.below hbw5 hG) (fun b g => Nat.lt_of_lt_of_le (hG b g) hbw5.size) (by omega) (by omega))
      have hFw : ∀ b, F b → w.heap.size ≤ b := fun b g => Nat.le_trans hs1 (hF b g)
      obtain ⟨E, hE⟩ : ∃ E : Int, E = r.err rec := ⟨_, rfl⟩
      obtain ⟨T, hT⟩ : ∃ T : Nat, T = r.told rec := ⟨_, rfl⟩
      rw [← hE, ← hT] at HAp
      have HEE := Lib.hid hE
      clear HNe HP4 hb5 HC4 hE hT
      go_wp2_with fail
      refine HAp.out.mono ?_
      rintro e w6 ⟨rfl, hP6, ht6⟩
      have hbw6 := hbw5.trans (ht6.below hbw5.size hFw)
      obtain ⟨y, hy⟩ : ∃ y, y = r.append rec := ⟨_, rfl⟩
      rw [← hy] at hP6
      have HY := Lib.hid hy
      have HC6 := Lib.hid (K.turn HC5.out ht6 (fun b g f => by have := hFl b f; have := g.1; omega))
      obtain ⟨Fd6, _, hD6⟩ := hP6.disk
      have HD6 := Lib.hid hD6
      have HSec : Hid (y.d.secs.length = 12) := Lib.hid (by
        rw [hy]
        unfold G.Rg.append
        split
        · show (G.lay _ _ _ _).secs.length = 12
          rw [G.lay_len]; exact HR1.out.2.2
        · exact HR1.out.2.2)
      have HQ : Hid (∀ k, k < 12 → (E ≠ 0 ∨ k < 2 ∨ 10 ≤ k ∨ ∃ j, r.low ≤ j ∧ j < r.next ∧ G.at_ 2 8 j = k) → y.d.read k = r.d.read k) := Lib.hid (fun k hk h => by
        rw [hy]
        by_cases he : r.err rec = 0
        · rw [append_ok he]
          rcases h with h | h | h | ⟨j, h1, h2, h3⟩
          · exact absurd (HEE.out.trans he) h
          · exact G.put_outside HM.out k (Or.inl (by rw [HR1.out.1]; omega))
          · exact G.put_outside HM.out k (Or.inr (by rw [HR1.out.1, HR1.out.2.1]; omega))
          · have := G.put_spares HM.out he j h1 h2
            rw [HR1.out.1, HR1.out.2.1, h3] at this
            exact this
        · rw [append_no he])
      clear HAp HP5 HC5 hP6 hD6 ht6 hy hb3
      go_wp2_with fail
      go_loopw [15] (fun i wr => ∃ k : Nat, k ≤ 12 ∧ i = .int .i64 k ∧ Hid (Below w6.heap.size w6 wr)) (fun i _ => 12 - (intOf i).toNat)
      case atStart => exact ⟨0, by omega, rfl, Lib.hid (Below.refl _ _)⟩
      case round =>
        obtain ⟨k, hk, rfl, HW⟩ := hrel
        by_cases hk12 : k < 12
        · have hk12' : (k : Int) < 12 := by omega
          go_wp2_with fail
          go_loopw [16, 17] (fun q n wr => ∃ (m : Nat) (kb : Bool), r.low ≤ m ∧ m ≤ r.next ∧ n = .int .u32 m ∧ q = .bool kb ∧ Hid (kb = true → ∃ j, r.low ≤ j ∧ j < r.next ∧ G.at_ 2 8 j = k) ∧ Hid (Below w6.heap.size w6 wr)) (fun _ n _ => r.next - (intOf n).toNat)
          case atStart => exact ⟨r.low, false, Nat.le_refl _, hln, rfl, rfl, Lib.hid (fun h => by cases h), HW⟩
          case round =>
            clear HW
            obtain ⟨m, kb, hm0, hm1, rfl, rfl, HKB, HW⟩ := hrel
            by_cases hmn : m < r.next
            · have hmn' : (m : Int) < (r.next : Int) := by omega
              have hm8 : (m : Int) < (r.low : Int) + 8 := by omega
              cases kb
              · obtain ⟨t, ht⟩ : ∃ t, t = G.at_ 2 8 m := ⟨_, rfl⟩
                have HAt : Hid (Calls Try.prog 24 #[.agg #[.int .i64 2, .int .i64 8, .int .u32 0], .int .u32 (m : Int)] wr fun e w' => e = .returned (.int .i64 (t : Int)) ∧ Below wr.heap.size wr w') := Lib.hid (by rw [ht]; exact ring_at 2 8 0 m wr (by decide) (by decide) (by decide) (by omega))
                obtain ⟨kb2, hkb2⟩ : ∃ kb2 : Bool, kb2 = ((t : Int) == (k : Int)) := ⟨_, rfl⟩
                have HK2 : Hid (kb2 = true → ∃ j, r.low ≤ j ∧ j < r.next ∧ G.at_ 2 8 j = k) := Lib.hid (fun h => by
                  rw [hkb2] at h
                  have h := beq_iff_eq.1 h
                  exact ⟨m, hm0, hmn, by omega⟩)
                have hkb3 : ((t : Int) == (k : Int)) = kb2 := hkb2.symm
                clear ht hkb2
                go_wp2_with fail
                refine HAt.out.mono ?_
                rintro e w7 ⟨rfl, hb7⟩
                have HW7 := Lib.hid (below_two HW.out hb7)
                clear HAt
                go_wp2_with fail
                go_roundw
                case rel => exact ⟨m + 1, kb2, by omega, by omega, by go_num, rfl, HK2, HW7⟩
                case measure => simp [intOf]; omega
              · go_wp2_with fail
                go_roundw
                case rel => exact ⟨m + 1, true, by omega, by omega, by go_num, rfl, HKB, HW⟩
                case measure => simp [intOf]; omega
            · obtain rfl : m = r.next := by omega
              have hmn' : ¬ (r.next : Int) < (r.next : Int) := by omega
              have HRa := Lib.hid (K.read (k : Int) (K.below HC6.out HW.out) (by omega) (by omega))
              go_wp2_with fail
              refine HRa.out.mono ?_
              rintro e w7 ⟨vb7, l7, k7, rfl, hrd7, hsl7, hb7⟩
              obtain ⟨rfl, rfl⟩ := rdV_in (by rw [HR1.out.2.2]; exact hk12) hrd7
              have hW7 := below_two HW.out hb7
              have HRb := Lib.hid (K.read (k : Int) (K.below HD6.out hW7) (by omega) (by omega))
              obtain ⟨A7, cap7, rfl, hc7⟩ := Sg_form hsl7
              have HSL7 := Lib.hid hsl7
              clear HRa hrd7 hsl7
              go_wp2_with fail
              refine HRb.out.mono ?_
              rintro e w8 ⟨vb8, l8, k8, rfl, hrd8, hsl8, hb8⟩
              obtain ⟨rfl, rfl⟩ := rdV_in (by rw [HSec.out]; exact hk12) hrd8
              have HW8 := Lib.hid (below_two hW7 hb8)
              obtain ⟨A8, cap8, rfl, hc8⟩ := Sg_form hsl8
              have hcv7 := conv_sg (HSL7.out.below hb8 (fun b g => g.2))
              have hcv8 := conv_sg hsl8
              clear HRb hrd8 hsl8 hb8 hb7
              by_cases hg : kb = true ∨ k < 2 ∨ 10 ≤ k ∨ E ≠ 0
              · have hq := HQ.out k hk12 (by
                  rcases hg with h | h | h | h
                  · exact Or.inr (Or.inr (Or.inr (HKB.out h)))
                  · exact Or.inr (Or.inl h)
                  · exact Or.inr (Or.inr (Or.inl h))
                  · exact Or.inl h)
                rw [hq] at hcv8 hc8 ⊢
                clear hq
                generalize r.d.read k = S at *
                cases kb
                · by_cases h2 : k < 2
                  · have h2' : (k : Int) < 2 := by omega
                    go_wp2_with fail
                    go_roundw
                    case rel => exact ⟨k + 1, by omega, by go_num, HW8⟩
                    case measure => simp [intOf]; omega
                  · have h2' : ¬ (k : Int) < 2 := by omega
                    by_cases h10 : 10 ≤ k
                    · have h10' : (10 : Int) ≤ (k : Int) := by omega
                      go_wp2_with fail
                      go_roundw
                      case rel => exact ⟨k + 1, by omega, by go_num, HW8⟩
                      case measure => simp [intOf]; omega
                    · have h10' : ¬ (10 : Int) ≤ (k : Int) := by omega
                      have he : (E != 0) = true := by
                        rcases hg with h | h | h | h
                        · cases h
                        · omega
                        · omega
                        · simpa using h
                      go_wp2_with fail
                      go_roundw
                      case rel => exact ⟨k + 1, by omega, by go_num, HW8⟩
                      case measure => simp [intOf]; omega
                · go_wp2_with fail
                  go_roundw
                  case rel => exact ⟨k + 1, by omega, by go_num, HW8⟩
                  case measure => simp [intOf]; omega
              · have hkf : kb = false := Bool.eq_false_iff.2 (fun h => hg (Or.inl h))
                subst hkf
                have h2' : ¬ (k : Int) < 2 := fun g => hg (Or.inr (Or.inl (by omega)))
                have h10' : ¬ (10 : Int) ≤ (k : Int) := fun g => hg (Or.inr (Or.inr (Or.inl (by omega))))
                have he : (E != 0) = false := by
                  by_cases h : E = 0
                  · simp [h]
                  · exact absurd (Or.inr (Or.inr (Or.inr h))) hg
                clear hg
                go_wp2_with fail
                go_roundw
                case rel => exact ⟨k + 1, by omega, by go_num, HW8⟩
                case measure => simp [intOf]; omega
        · have hk12' : ¬ (k : Int) < 12 := by omega
          have hbe := hbw6.trans (HW.out.mono hbw6.size)
          go_wp2
          go_ret
          exact ⟨rfl, hbe⟩
end

end Go.Proofs.Ytfpojbnidoeohaa
