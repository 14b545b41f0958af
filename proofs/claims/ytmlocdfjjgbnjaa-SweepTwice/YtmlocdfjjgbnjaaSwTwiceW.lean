/-
  Walks of layer sweep's laws: SweepTwice.
-/
import Derived.Test.YtmlocdfjjgbnjaaSwFewW
namespace Go.Proofs.Ytmlocdfjjgbnjaa
open Go.RowKit

section
variable {H : World → (Nat → Prop) → Value → Cl.Cs → Prop}
set_option maxRecDepth 100000 in
set_option maxHeartbeats 8000000 in
theorem SweepTwice_walk (K : SweepOk H) (w : World) (v va : Value) (c : Cn.Ch) (act : List Int) (hS : Lc w v c) (hR : RngC c) (hA : Ln w va act) (hRA : RngN act) :
    Calls Try.prog 6 #[v, va] w fun e w' => e = .returned (.bool true) ∧ Below w.heap.size w w' := by
  have HS := Lib.hid hS
  have HA := Lib.hid hA
  have HR := Lib.hid hR
  have HRA := Lib.hid hRA
  have HK := Lib.hid K
  obtain ⟨A, cap, rfl, hcap⟩ := hS.form
  obtain ⟨B, capb, rfl, hcapb⟩ := hA.form
  clear hS hA hR hRA
  have HAw := Lib.hid (awake13_any K w)
  rcases big_cases c act with (b1 | ⟨b1, b2⟩) | ⟨b1, b2, l1, l2⟩
  · go_enter Try.func6, Try.ntmps6
    go_wp2_with (go_at_call 9; refine HAw.out.mono ?_; rintro e w0 ⟨rfl, b0⟩)
    go_ret
    exact ⟨rfl, b0⟩
  · go_enter Try.func6, Try.ntmps6
    go_wp2_with (go_at_call 9; refine HAw.out.mono ?_; rintro e w0 ⟨rfl, b0⟩)
    go_ret
    exact ⟨rfl, b0⟩
  · cases hmay : Cn.mayB c with
    | false =>
      have HMay := Lib.hid hmay
      clear hmay
      go_enter Try.func6, Try.ntmps6
      go_wp2_with (first
        | (go_at_call 9; refine HAw.out.mono ?_; rintro e w0 ⟨rfl, b0⟩; have HB0 := Lib.hid b0; have HMy := Lib.hid (rmay13L (HS.out.below b0) (by omega)); rw [HMay.out] at HMy; clear b0 HAw)
        | (go_at_call 18; refine HMy.out.mono ?_; rintro e w1 ⟨rfl, b1⟩; have HB1 := Lib.hid (below_two HB0.out b1); clear b1))
      go_ret
      exact ⟨rfl, HB1.out⟩
    | true =>
      have HMay := Lib.hid hmay
      have hM := (Cn.mayB_iff c).1 hmay
      obtain ⟨hf, hhf⟩ : ∃ hf, hf = act.length / 2 := ⟨_, rfl⟩
      have hq1 : (act.length : Int).tdiv 2 = (hf : Int) := by rw [Int.tdiv_eq_ediv_of_nonneg (by omega)]; omega
      have hq2 : (act.length : Int) / 2 = (hf : Int) := by omega
      have hh1 : hf ≤ act.length := by omega
      clear hhf
      have HRT : Hid (RngN (act.take hf)) := Lib.hid (fun a ha => HRA.out a (List.mem_of_mem_take ha))
      have HMo : Hid (∀ k (hk : k < c.length), Sw.needB c (act.take hf) c[k] = true → Sw.needB c act c[k] = true) := Lib.hid (fun k hk h => Sw.need_mono (fun a ha => List.mem_of_mem_take ha) h)
      have hh : hf ≤ capb := by omega
      clear hmay
      by_cases hy : Sw.pruneC c act = []
      · have HY : Hid ((Sw.pruneC c act).length = 0) := Lib.hid (by rw [hy]; rfl)
        clear hy hM
        go_enter Try.func6, Try.ntmps6
        go_wp2_with (first
          | (go_at_call 9; refine HAw.out.mono ?_; rintro e w0 ⟨rfl, b0⟩; have HB0 := Lib.hid b0; have HL0 := Lib.hid (And.intro (HS.out.below b0) (HA.out.below b0)); have HMy := Lib.hid (rmay13L (HL0.out.1) (by omega)); rw [HMay.out] at HMy; clear b0 HAw)
          | (go_at_call 18; refine HMy.out.mono ?_; rintro e w0' ⟨rfl, b0⟩; have HB0' := Lib.hid (below_two HB0.out b0); have HL0' := Lib.hid (And.intro (HL0.out.1.below b0) (HL0.out.2.below b0)); clear b0 HMy HB0 HL0; have HB0 := HB0'; have HL0 := HL0')
          | (go_at_call 10; with_reducible refine (made13L ((HL0.out.1)) (by omega)).mono ?_; rintro e w1 ⟨v1, rfl, h1, b1⟩; obtain ⟨Ax, cx, rfl, hcx⟩ := h1.form; have HL1 := Lib.hid (And.intro ((HL0.out.1).below b1) (And.intro ((HL0.out.2).below b1) (h1))); have HB1 := Lib.hid (below_two HB0.out b1); clear b1 h1)
          | (go_at_call 16; with_reducible refine (HK.out.pruneL ((HL1.out.2.2)) (by omega) HR.out ((HL1.out.2.1)) (by omega) HRA.out).mono ?_; rintro e w2 ⟨v2, rfl, h2, b2⟩; obtain ⟨Ay, cy, rfl, hcy⟩ := h2.form; rw [HY.out]; have HL2 := Lib.hid (And.intro ((HL1.out.1).below b2) (And.intro ((HL1.out.2.1).below b2) (And.intro ((HL1.out.2.2).below b2) (h2)))); have HB2 := Lib.hid (below_two HB1.out b2); clear b2 h2)
          | (go_at_call 12; with_reducible refine (HK.out.neededL ((HL2.out.2.2.1)) (by omega) HR.out ((HL2.out.2.1)) (by omega) HRA.out).mono ?_; rintro e w3 ⟨v6, rfl, h6, b3⟩; obtain ⟨An, cn, rfl, hcn⟩ := h6.form; rw [needs_len] at hcn ⊢; have HL3 := Lib.hid (And.intro ((HL2.out.1).below b3) (And.intro ((HL2.out.2.1).below b3) (And.intro ((HL2.out.2.2.1).below b3) (And.intro ((HL2.out.2.2.2).below b3) (h6))))); have HB3 := Lib.hid (below_two HB2.out b3); clear b3 h6)
          | (go_at_call 12; with_reducible refine (HK.out.neededL ((HL3.out.2.2.1)) (by omega) HR.out (Ln.take ((HL3.out.2.1)) hf (by omega)) (by rw [List.length_take]; omega) HRT.out).mono ?_; rintro e w4 ⟨v7, rfl, h7, b4⟩; obtain ⟨Am, cm, rfl, hcm⟩ := h7.form; rw [needs_len] at hcm ⊢; have HL4 := Lib.hid (And.intro ((HL3.out.1).below b4) (And.intro ((HL3.out.2.1).below b4) (And.intro ((HL3.out.2.2.1).below b4) (And.intro ((HL3.out.2.2.2.1).below b4) (And.intro ((HL3.out.2.2.2.2).below b4) (h7)))))); have HB4 := Lib.hid (below_two HB3.out b4); clear b4 h7))
        go_loopw [10] (fun iv wr => ∃ k : Nat, k ≤ c.length ∧ iv = .int .i64 (k : Int) ∧ Hid (wr = w4)) (fun iv _ => c.length - (intOf iv).toNat)
        case atStart => exact ⟨0, Nat.zero_le _, rfl, Lib.hid rfl⟩
        case round =>
          obtain ⟨k, hk, rfl, HW⟩ := hrel
          obtain rfl := HW.out
          by_cases hlt : k < c.length
          · have hlt' : (k : Int) < (c.length : Int) := by omega
            have hk0 : (0 : Int) ≤ (k : Int) := by omega
            obtain ⟨a, _, ea, _, _, xa⟩ := Lo.nth HL4.out.2.2.2.2.1 k (by rw [needs_len]; exact hlt)
            obtain ⟨b, _, eb, _, _, xb⟩ := Lo.nth HL4.out.2.2.2.2.2 k (by rw [needs_len]; exact hlt)
            obtain rfl : An = some a := (Value.slice.inj ea).1
            obtain rfl : Am = some b := (Value.slice.inj eb).1
            clear ea eb
            have hm := HMo.out k hlt
            have e1 : (Sw.needs c act)[k]'(by rw [needs_len]; exact hlt) = Sw.needB c act c[k] := by unfold Sw.needs; exact List.getElem_map ..
            have e2 : (Sw.needs c (act.take hf))[k]'(by rw [needs_len]; exact hlt) = Sw.needB c (act.take hf) c[k] := by unfold Sw.needs; exact List.getElem_map ..
            rw [e1] at xa
            rw [e2] at xb
            clear e1 e2
            generalize Sw.needB c act c[k] = na at *
            generalize Sw.needB c (act.take hf) c[k] = nb at *
            cases nb with
            | false =>
              clear hm
              go_wp2
              go_roundw
              case rel => exact ⟨k + 1, by omega, by go_num, Lib.hid trivial⟩
              case measure => simp [intOf]; omega
            | true =>
              obtain rfl := hm rfl
              clear hm
              go_wp2
              go_roundw
              case rel => exact ⟨k + 1, by omega, by go_num, Lib.hid trivial⟩
              case measure => simp [intOf]; omega
          · obtain rfl : k = c.length := by omega
            have hlt' : ¬ (c.length : Int) < (c.length : Int) := by omega
            go_wp2
            go_ret
            exact ⟨rfl, HB4.out⟩
      · obtain ⟨y, hyy⟩ : ∃ y, y = Sw.pruneC c act := ⟨_, rfl⟩
        have HY : Hid (Sw.pruneC c act = y) := Lib.hid hyy.symm
        have HYl : Hid (y.length ≤ 200) := Lib.hid (by rw [hyy]; have := (Sw.prune_sub (c := c) (act := act)).length_le; omega)
        have HYr : Hid (RngC y) := Lib.hid (by rw [hyy]; exact HR.out.prune act)
        have HYY : Hid (Sw.pruneC y act = y) := Lib.hid (by rw [hyy]; exact Sw.prune_prune HR.out.max hy)
        have hy0 : (y.length : Int) > 0 := by
          have : y.length ≠ 0 := fun e => hy (by rw [← hyy]; exact List.length_eq_zero_iff.1 e)
          omega
        clear hy hyy hM
        go_enter Try.func6, Try.ntmps6
        go_wp2_with (first
          | (go_at_call 9; refine HAw.out.mono ?_; rintro e w0 ⟨rfl, b0⟩; have HB0 := Lib.hid b0; have HL0 := Lib.hid (And.intro (HS.out.below b0) (HA.out.below b0)); have HMy := Lib.hid (rmay13L (HL0.out.1) (by omega)); rw [HMay.out] at HMy; clear b0 HAw)
          | (go_at_call 18; refine HMy.out.mono ?_; rintro e w0' ⟨rfl, b0⟩; have HB0' := Lib.hid (below_two HB0.out b0); have HL0' := Lib.hid (And.intro (HL0.out.1.below b0) (HL0.out.2.below b0)); clear b0 HMy HB0 HL0; have HB0 := HB0'; have HL0 := HL0')
          | (go_at_call 10; with_reducible refine (made13L ((HL0.out.1)) (by omega)).mono ?_; rintro e w1 ⟨v1, rfl, h1, b1⟩; obtain ⟨Ax, cx, rfl, hcx⟩ := h1.form; have HL1 := Lib.hid (And.intro ((HL0.out.1).below b1) (And.intro ((HL0.out.2).below b1) (h1))); have HB1 := Lib.hid (below_two HB0.out b1); clear b1 h1)
          | (go_at_call 16; with_reducible refine (HK.out.pruneL ((HL1.out.2.2)) (by omega) HR.out ((HL1.out.2.1)) (by omega) HRA.out).mono ?_; rintro e w2 ⟨v2, rfl, h2, b2⟩; obtain ⟨Ay, cy, rfl, hcy⟩ := h2.form; rw [HY.out] at h2 hcy ⊢; have HL2 := Lib.hid (And.intro ((HL1.out.1).below b2) (And.intro ((HL1.out.2.1).below b2) (And.intro ((HL1.out.2.2).below b2) (h2)))); have HB2 := Lib.hid (below_two HB1.out b2); clear b2 h2)
          | (go_at_call 16; with_reducible refine (HK.out.pruneL ((HL2.out.2.2.2)) HYl.out HYr.out ((HL2.out.2.1)) (by omega) HRA.out).mono ?_; rintro e w3 ⟨v3, rfl, h3, b3⟩; rw [HYY.out] at h3; have HL3 := Lib.hid (And.intro ((HL2.out.1).below b3) (And.intro ((HL2.out.2.1).below b3) (And.intro ((HL2.out.2.2.1).below b3) (And.intro ((HL2.out.2.2.2).below b3) (h3))))); have HB3 := Lib.hid (below_two HB2.out b3); clear b3 h3)
          | (go_at_call 15; with_reducible refine (real13L ((HL3.out.2.2.2.2)) (Nat.le_trans HYl.out (by decide))).mono ?_; rintro e w4 ⟨v4, rfl, h4, b4⟩; have HL4 := Lib.hid (And.intro ((HL3.out.1).below b4) (And.intro ((HL3.out.2.1).below b4) (And.intro ((HL3.out.2.2.1).below b4) (And.intro ((HL3.out.2.2.2.1).below b4) (And.intro ((HL3.out.2.2.2.2).below b4) (h4)))))); have HB4 := Lib.hid (below_two HB3.out b4); clear b4 h4)
          | (go_at_call 15; with_reducible refine (real13L ((HL4.out.2.2.2.1)) (Nat.le_trans HYl.out (by decide))).mono ?_; rintro e w5 ⟨v5, rfl, h5, b5⟩; have HL5 := Lib.hid (And.intro ((HL4.out.1).below b5) (And.intro ((HL4.out.2.1).below b5) (And.intro ((HL4.out.2.2.1).below b5) (And.intro ((HL4.out.2.2.2.1).below b5) (And.intro ((HL4.out.2.2.2.2.1).below b5) (And.intro ((HL4.out.2.2.2.2.2).below b5) (h5))))))); have HB5 := Lib.hid (below_two HB4.out b5); clear b5 h5)
          | (go_at_call 14; with_reducible refine (same13L ((HL5.out.2.2.2.2.2.1)) ((HL5.out.2.2.2.2.2.2)) (Nat.le_trans HYl.out (by decide))).mono ?_; rintro e w6 ⟨rfl, b6⟩; have HL6 := Lib.hid (And.intro ((HL5.out.1).below b6) (And.intro ((HL5.out.2.1).below b6) (And.intro ((HL5.out.2.2.1).below b6) (And.intro ((HL5.out.2.2.2.1).below b6) (And.intro ((HL5.out.2.2.2.2.1).below b6) (And.intro ((HL5.out.2.2.2.2.2.1).below b6) ((HL5.out.2.2.2.2.2.2).below b6))))))); have HB6 := Lib.hid (below_two HB5.out b6); clear b6)
          | (go_at_call 12; with_reducible refine (HK.out.neededL ((HL6.out.2.2.1)) (by omega) HR.out ((HL6.out.2.1)) (by omega) HRA.out).mono ?_; rintro e w7 ⟨v6, rfl, h6, b7⟩; obtain ⟨An, cn, rfl, hcn⟩ := h6.form; rw [needs_len] at hcn ⊢; have HL7 := Lib.hid (And.intro ((HL6.out.1).below b7) (And.intro ((HL6.out.2.1).below b7) (And.intro ((HL6.out.2.2.1).below b7) (And.intro ((HL6.out.2.2.2.1).below b7) (And.intro ((HL6.out.2.2.2.2.1).below b7) (And.intro ((HL6.out.2.2.2.2.2.1).below b7) (And.intro ((HL6.out.2.2.2.2.2.2).below b7) (h6)))))))); have HB7 := Lib.hid (below_two HB6.out b7); clear b7 h6)
          | (go_at_call 12; with_reducible refine (HK.out.neededL ((HL7.out.2.2.1)) (by omega) HR.out (Ln.take ((HL7.out.2.1)) hf (by omega)) (by rw [List.length_take]; omega) HRT.out).mono ?_; rintro e w8 ⟨v7, rfl, h7, b8⟩; obtain ⟨Am, cm, rfl, hcm⟩ := h7.form; rw [needs_len] at hcm ⊢; have HL8 := Lib.hid (And.intro ((HL7.out.1).below b8) (And.intro ((HL7.out.2.1).below b8) (And.intro ((HL7.out.2.2.1).below b8) (And.intro ((HL7.out.2.2.2.1).below b8) (And.intro ((HL7.out.2.2.2.2.1).below b8) (And.intro ((HL7.out.2.2.2.2.2.1).below b8) (And.intro ((HL7.out.2.2.2.2.2.2.1).below b8) (And.intro ((HL7.out.2.2.2.2.2.2.2).below b8) (h7))))))))); have HB8 := Lib.hid (below_two HB7.out b8); clear b8 h7))
        go_loopw [10] (fun iv wr => ∃ k : Nat, k ≤ c.length ∧ iv = .int .i64 (k : Int) ∧ Hid (wr = w8)) (fun iv _ => c.length - (intOf iv).toNat)
        case atStart => exact ⟨0, Nat.zero_le _, rfl, Lib.hid rfl⟩
        case round =>
          obtain ⟨k, hk, rfl, HW⟩ := hrel
          obtain rfl := HW.out
          by_cases hlt : k < c.length
          · have hlt' : (k : Int) < (c.length : Int) := by omega
            have hk0 : (0 : Int) ≤ (k : Int) := by omega
            obtain ⟨a, _, ea, _, _, xa⟩ := Lo.nth HL8.out.2.2.2.2.2.2.2.1 k (by rw [needs_len]; exact hlt)
            obtain ⟨b, _, eb, _, _, xb⟩ := Lo.nth HL8.out.2.2.2.2.2.2.2.2 k (by rw [needs_len]; exact hlt)
            obtain rfl : An = some a := (Value.slice.inj ea).1
            obtain rfl : Am = some b := (Value.slice.inj eb).1
            clear ea eb
            have hm := HMo.out k hlt
            have e1 : (Sw.needs c act)[k]'(by rw [needs_len]; exact hlt) = Sw.needB c act c[k] := by unfold Sw.needs; exact List.getElem_map ..
            have e2 : (Sw.needs c (act.take hf))[k]'(by rw [needs_len]; exact hlt) = Sw.needB c (act.take hf) c[k] := by unfold Sw.needs; exact List.getElem_map ..
            rw [e1] at xa
            rw [e2] at xb
            clear e1 e2
            generalize Sw.needB c act c[k] = na at *
            generalize Sw.needB c (act.take hf) c[k] = nb at *
            cases nb with
            | false =>
              clear hm
              go_wp2
              go_roundw
              case rel => exact ⟨k + 1, by omega, by go_num, Lib.hid trivial⟩
              case measure => simp [intOf]; omega
            | true =>
              obtain rfl := hm rfl
              clear hm
              go_wp2
              go_roundw
              case rel => exact ⟨k + 1, by omega, by go_num, Lib.hid trivial⟩
              case measure => simp [intOf]; omega
          · obtain rfl : k = c.length := by omega
            have hlt' : ¬ (c.length : Int) < (c.length : Int) := by omega
            go_wp2
            go_ret
            exact ⟨rfl, HB8.out⟩
end
end Go.Proofs.Ytmlocdfjjgbnjaa
