/-
  Walks of layer sweep's laws: SweepNeeds.
  Walks of layer sweep's laws: SweepFew.
  Walks of layer sweep's laws: SweepTwice.
  Walks of layer sweep's laws: SweepSafe.
-/
import Derived.Test.YtmlocdfjjgbnjaaSwLaw2
namespace Go.Proofs.Ytmlocdfjjgbnjaa
open Go.RowKit

/-- more than the law looks at -/
def Big (c : Cn.Ch) (act : List Int) : Prop := c.length > 60 ∨ act.length > 20
theorem big_cases (c : Cn.Ch) (act : List Int) : (decide ((c.length : Int) > 60) = true ∨ (decide ((c.length : Int) > 60) = false ∧ decide ((act.length : Int) > 20) = true)) ∨ (decide ((c.length : Int) > 60) = false ∧ decide ((act.length : Int) > 20) = false ∧ c.length ≤ 60 ∧ act.length ≤ 20) := by
  by_cases h : c.length > 60
  · exact Or.inl (Or.inl (decide_eq_true (by omega)))
  · by_cases h2 : act.length > 20
    · exact Or.inl (Or.inr ⟨decide_eq_false (by omega), decide_eq_true (by omega)⟩)
    · exact Or.inr ⟨decide_eq_false (by omega), decide_eq_false (by omega), by omega, by omega⟩

section
variable {H : World → (Nat → Prop) → Value → Cl.Cs → Prop}
set_option maxRecDepth 100000 in
set_option maxHeartbeats 8000000 in
theorem SweepNeeds_walk (K : SweepOk H) (w : World) (v va : Value) (c : Cn.Ch) (act : List Int) (hS : Lc w v c) (hR : RngC c) (hA : Ln w va act) (hRA : RngN act) :
    Calls Try.prog 3 #[v, va] w fun e w' => e = .returned (.bool true) ∧ Below w.heap.size w w' := by
  have HS := Lib.hid hS
  have HA := Lib.hid hA
  have HR := Lib.hid hR
  have HRA := Lib.hid hRA
  have HK := Lib.hid K
  obtain ⟨A, cap, rfl, hcap⟩ := hS.form
  obtain ⟨B, capb, rfl, hcapb⟩ := hA.form
  clear hS hA hR hRA
  have HAw := Lib.hid (awake13_any K w)
  rcases big_cases c act with (b1 | ⟨b1, b2⟩) | ⟨b1, b2, l1, l2⟩
  · go_enter Try.func3, Try.ntmps3
    go_wp2_with (go_at_call 9; refine HAw.out.mono ?_; rintro e w0 ⟨rfl, b0⟩)
    go_ret
    exact ⟨rfl, b0⟩
  · go_enter Try.func3, Try.ntmps3
    go_wp2_with (go_at_call 9; refine HAw.out.mono ?_; rintro e w0 ⟨rfl, b0⟩)
    go_ret
    exact ⟨rfl, b0⟩
  · have HPL : Hid ((Sw.pruneC c act).length ≤ 1000) := Lib.hid (by have := (Sw.prune_sub (c := c) (act := act)).length_le; omega)
    go_enter Try.func3, Try.ntmps3
    go_wp2_with (first
      | (go_at_call 9; refine HAw.out.mono ?_; rintro e w0 ⟨rfl, b0⟩; have HB0 := Lib.hid b0; have HL0 := Lib.hid (And.intro (HS.out.below b0) (HA.out.below b0)); clear b0 HAw)
      | (go_at_call 10; with_reducible refine (made13L ((HL0.out.1)) (by omega)).mono ?_; rintro e w1 ⟨v1, rfl, h1, b1⟩; have HL1 := Lib.hid (And.intro ((HL0.out.1).below b1) (And.intro ((HL0.out.2).below b1) (h1))); have HB1 := Lib.hid (below_two HB0.out b1); clear b1 h1)
      | (go_at_call 12; with_reducible refine (HK.out.neededL ((HL1.out.2.2)) (by omega) HR.out ((HL1.out.2.1)) (by omega) HRA.out).mono ?_; rintro e w2 ⟨v2, rfl, h2, b2⟩; have HL2 := Lib.hid (And.intro ((HL1.out.1).below b2) (And.intro ((HL1.out.2.1).below b2) (And.intro ((HL1.out.2.2).below b2) (h2)))); have HB2 := Lib.hid (below_two HB1.out b2); clear b2 h2)
      | (go_at_call 13; with_reducible refine (rneeded13L ((HL2.out.1)) (by omega) ((HL2.out.2.1)) (by omega)).mono ?_; rintro e w3 ⟨v3, rfl, h3, b3⟩; have HL3 := Lib.hid (And.intro ((HL2.out.1).below b3) (And.intro ((HL2.out.2.1).below b3) (And.intro ((HL2.out.2.2.1).below b3) (And.intro ((HL2.out.2.2.2).below b3) (h3))))); have HB3 := Lib.hid (below_two HB2.out b3); clear b3 h3)
      | (go_at_call 11; with_reducible refine (rbools13L ((HL3.out.2.2.2.1)) ((HL3.out.2.2.2.2)) (by rw [needs_len]; omega)).mono ?_; rintro e w4 ⟨rfl, b4⟩; have HL4 := Lib.hid (And.intro ((HL3.out.1).below b4) (And.intro ((HL3.out.2.1).below b4) (And.intro ((HL3.out.2.2.1).below b4) (And.intro ((HL3.out.2.2.2.1).below b4) ((HL3.out.2.2.2.2).below b4))))); have HB4 := Lib.hid (below_two HB3.out b4); clear b4)
      | (go_at_call 16; with_reducible refine (HK.out.pruneL ((HL4.out.2.2.1)) (by omega) HR.out ((HL4.out.2.1)) (by omega) HRA.out).mono ?_; rintro e w5 ⟨v4, rfl, h4, b5⟩; have HL5 := Lib.hid (And.intro ((HL4.out.1).below b5) (And.intro ((HL4.out.2.1).below b5) (And.intro ((HL4.out.2.2.1).below b5) (And.intro ((HL4.out.2.2.2.1).below b5) (And.intro ((HL4.out.2.2.2.2).below b5) (h4)))))); have HB5 := Lib.hid (below_two HB4.out b5); clear b5 h4)
      | (go_at_call 15; with_reducible refine (real13L ((HL5.out.2.2.2.2.2)) HPL.out).mono ?_; rintro e w6 ⟨v5, rfl, h5, b6⟩; have HL6 := Lib.hid (And.intro ((HL5.out.1).below b6) (And.intro ((HL5.out.2.1).below b6) (And.intro ((HL5.out.2.2.1).below b6) (And.intro ((HL5.out.2.2.2.1).below b6) (And.intro ((HL5.out.2.2.2.2.1).below b6) (And.intro ((HL5.out.2.2.2.2.2).below b6) (h5))))))); have HB6 := Lib.hid (below_two HB5.out b6); clear b6 h5)
      | (go_at_call 17; with_reducible refine (rprune13L ((HL6.out.1)) (by omega) ((HL6.out.2.1)) (by omega)).mono ?_; rintro e w7 ⟨v6, rfl, h6, b7⟩; have HL7 := Lib.hid (And.intro ((HL6.out.1).below b7) (And.intro ((HL6.out.2.1).below b7) (And.intro ((HL6.out.2.2.1).below b7) (And.intro ((HL6.out.2.2.2.1).below b7) (And.intro ((HL6.out.2.2.2.2.1).below b7) (And.intro ((HL6.out.2.2.2.2.2.1).below b7) (And.intro ((HL6.out.2.2.2.2.2.2).below b7) (h6)))))))); have HB7 := Lib.hid (below_two HB6.out b7); clear b7 h6)
      | (go_at_call 14; with_reducible refine (same13L ((HL7.out.2.2.2.2.2.2.1)) ((HL7.out.2.2.2.2.2.2.2)) HPL.out).mono ?_; rintro e w8 ⟨rfl, b8⟩; have HL8 := Lib.hid (And.intro ((HL7.out.1).below b8) (And.intro ((HL7.out.2.1).below b8) (And.intro ((HL7.out.2.2.1).below b8) (And.intro ((HL7.out.2.2.2.1).below b8) (And.intro ((HL7.out.2.2.2.2.1).below b8) (And.intro ((HL7.out.2.2.2.2.2.1).below b8) (And.intro ((HL7.out.2.2.2.2.2.2.1).below b8) ((HL7.out.2.2.2.2.2.2.2).below b8)))))))); have HB8 := Lib.hid (below_two HB7.out b8); clear b8)
      | (go_at_call 15; with_reducible refine (real13L ((HL8.out.2.2.1)) (by omega)).mono ?_; rintro e w9 ⟨v7, rfl, h7, b9⟩; have HL9 := Lib.hid (And.intro ((HL8.out.1).below b9) (And.intro ((HL8.out.2.1).below b9) (And.intro ((HL8.out.2.2.1).below b9) (And.intro ((HL8.out.2.2.2.1).below b9) (And.intro ((HL8.out.2.2.2.2.1).below b9) (And.intro ((HL8.out.2.2.2.2.2.1).below b9) (And.intro ((HL8.out.2.2.2.2.2.2.1).below b9) (And.intro ((HL8.out.2.2.2.2.2.2.2).below b9) (h7))))))))); have HB9 := Lib.hid (below_two HB8.out b9); clear b9 h7)
      | (go_at_call 14; with_reducible refine (same13L ((HL9.out.2.2.2.2.2.2.2.2)) ((HL9.out.1)) (by omega)).mono ?_; rintro e w10 ⟨rfl, b10⟩; have HL10 := Lib.hid (And.intro ((HL9.out.1).below b10) (And.intro ((HL9.out.2.1).below b10) (And.intro ((HL9.out.2.2.1).below b10) (And.intro ((HL9.out.2.2.2.1).below b10) (And.intro ((HL9.out.2.2.2.2.1).below b10) (And.intro ((HL9.out.2.2.2.2.2.1).below b10) (And.intro ((HL9.out.2.2.2.2.2.2.1).below b10) (And.intro ((HL9.out.2.2.2.2.2.2.2.1).below b10) ((HL9.out.2.2.2.2.2.2.2.2).below b10))))))))); have HB10 := Lib.hid (below_two HB9.out b10); clear b10))
    go_ret
    exact ⟨rfl, HB10.out⟩
end
end Go.Proofs.Ytmlocdfjjgbnjaa

namespace Go.Proofs.Ytmlocdfjjgbnjaa
open Go.RowKit

theorem opens_snoc (c : Cn.Ch) {k : Nat} (hk : k < c.length) : Sw.opens (c.take (k + 1)) = if c[k].done = true then Sw.opens (c.take k) else Sw.opens (c.take k) + 1 := by
  unfold Sw.opens
  rw [List.take_succ_eq_append_getElem hk, List.filter_append, List.length_append]
  cases h : c[k].done <;> simp [h]

section
variable {H : World → (Nat → Prop) → Value → Cl.Cs → Prop}
set_option maxRecDepth 100000 in
set_option maxHeartbeats 8000000 in
theorem SweepFew_walk (K : SweepOk H) (w : World) (v va : Value) (c : Cn.Ch) (act : List Int) (hS : Lc w v c) (hR : RngC c) (hA : Ln w va act) (hRA : RngN act) :
    Calls Try.prog 5 #[v, va] w fun e w' => e = .returned (.bool true) ∧ Below w.heap.size w w' := by
  have HS := Lib.hid hS
  have HA := Lib.hid hA
  have HR := Lib.hid hR
  have HRA := Lib.hid hRA
  have HK := Lib.hid K
  obtain ⟨A, cap, rfl, hcap⟩ := hS.form
  obtain ⟨B, capb, rfl, hcapb⟩ := hA.form
  clear hS hA hR hRA
  have HAw := Lib.hid (awake13_any K w)
  rcases big_cases c act with (b1 | ⟨b1, b2⟩) | ⟨b1, b2, l1, l2⟩
  · go_enter Try.func5, Try.ntmps5
    go_wp2_with (go_at_call 9; refine HAw.out.mono ?_; rintro e w0 ⟨rfl, b0⟩)
    go_ret
    exact ⟨rfl, b0⟩
  · go_enter Try.func5, Try.ntmps5
    go_wp2_with (go_at_call 9; refine HAw.out.mono ?_; rintro e w0 ⟨rfl, b0⟩)
    go_ret
    exact ⟨rfl, b0⟩
  · have HFew := Lib.hid (Sw.few_pruned c act)
    have HOl : Hid (Sw.opens c ≤ c.length) := Lib.hid (List.length_filter_le ..)
    go_enter Try.func5, Try.ntmps5
    go_wp2_with (first
      | (go_at_call 9; refine HAw.out.mono ?_; rintro e w0 ⟨rfl, b0⟩; have HB0 := Lib.hid b0; have HL0 := Lib.hid (And.intro (HS.out.below b0) (HA.out.below b0)); clear b0 HAw))
    go_loopw [7, 8] (fun ov iv wr => ∃ k o : Nat, k ≤ c.length ∧ o ≤ k ∧ ov = .int .i64 (o : Int) ∧ iv = .int .i64 (k : Int) ∧ Hid (Sw.opens (c.take k) = o) ∧ Hid (wr = w0)) (fun _ iv _ => c.length - (intOf iv).toNat)
    case atStart => exact ⟨0, 0, Nat.zero_le _, Nat.le_refl _, rfl, rfl, Lib.hid rfl, Lib.hid rfl⟩
    case round =>
      obtain ⟨k, o, hk, ho, rfl, rfl, HO, HW⟩ := hrel
      obtain rfl := HW.out
      by_cases hlt : k < c.length
      · have hlt' : (k : Int) < (c.length : Int) := by omega
        have hk0 : (0 : Int) ≤ (k : Int) := by omega
        obtain ⟨a, _, ea, _, _, _, _, _, x3⟩ := HL0.out.1.nth k hlt
        cases ea
        have HN := Lib.hid (opens_snoc c hlt)
        cases hd : c[k].done with
        | true =>
          rw [hd] at x3
          have HN2 : Hid (Sw.opens (c.take (k + 1)) = o) := Lib.hid (by rw [HN.out, if_pos hd, HO.out])
          clear hd HN
          go_wp2
          go_roundw
          case rel => exact ⟨k + 1, o, by omega, by omega, rfl, by go_num, HN2, Lib.hid trivial⟩
          case measure => simp [intOf]; omega
        | false =>
          rw [hd] at x3
          have HN2 : Hid (Sw.opens (c.take (k + 1)) = o + 1) := Lib.hid (by rw [HN.out, if_neg (by rw [hd]; simp), HO.out])
          clear hd HN
          go_wp2
          go_roundw
          case rel => exact ⟨k + 1, o + 1, by omega, by omega, by go_num, by go_num, HN2, Lib.hid trivial⟩
          case measure => simp [intOf]; omega
      · obtain rfl : k = c.length := by omega
        have hlt' : ¬ (c.length : Int) < (c.length : Int) := by omega
        have HO2 : Hid (Sw.opens c = o) := Lib.hid (by have := HO.out; rw [List.take_length] at this; exact this)
        have hfew := HFew.out
        rw [HO2.out] at hfew
        clear HO HFew HOl
        obtain ⟨n, hn⟩ : ∃ n, n = (Sw.pruneC c act).length := ⟨_, rfl⟩
        rw [← hn] at hfew
        have HNn := Lib.hid hn
        clear hn
        have t1 : (n : Int) ≤ 1 + (act.length : Int) + 2 * (o : Int) := by omega
        have t1' : decide ((n : Int) ≤ 1 + (act.length : Int) + 2 * (o : Int)) = true := decide_eq_true t1
        by_cases hom : o > act.length
        · have t2 : decide ((o : Int) > (act.length : Int)) = true := decide_eq_true (by omega)
          go_wp2_with (first
            | (go_at_call 10; refine (made13L (HL0.out.1) (by omega)).mono ?_; rintro e w1 ⟨v1, rfl, h1, hb1⟩; have H1 := Lib.hid h1; have HA1 := Lib.hid (HL0.out.2.below hb1); have HB1 := Lib.hid (below_two HB0.out hb1); clear h1 hb1)
            | (go_at_call 16; refine (HK.out.pruneL H1.out (by omega) HR.out HA1.out (by omega) HRA.out).mono ?_; rintro e w2 ⟨v2, rfl, h2, hb2⟩; obtain ⟨A2, c2, rfl, _⟩ := h2.form; rw [← HNn.out]; have HB2 := Lib.hid (below_two HB1.out hb2); clear h2 hb2))
          go_ret
          exact ⟨rfl, HB2.out⟩
        · have t2 : decide ((o : Int) > (act.length : Int)) = false := decide_eq_false (by omega)
          have t3 : (n : Int) ≤ 1 + 2 * (act.length : Int) + (o : Int) := by omega
          have t3' : decide ((n : Int) ≤ 1 + 2 * (act.length : Int) + (o : Int)) = true := decide_eq_true t3
          go_wp2_with (first
            | (go_at_call 10; refine (made13L (HL0.out.1) (by omega)).mono ?_; rintro e w1 ⟨v1, rfl, h1, hb1⟩; have H1 := Lib.hid h1; have HA1 := Lib.hid (HL0.out.2.below hb1); have HB1 := Lib.hid (below_two HB0.out hb1); clear h1 hb1)
            | (go_at_call 16; refine (HK.out.pruneL H1.out (by omega) HR.out HA1.out (by omega) HRA.out).mono ?_; rintro e w2 ⟨v2, rfl, h2, hb2⟩; obtain ⟨A2, c2, rfl, _⟩ := h2.form; rw [← HNn.out]; have HB2 := Lib.hid (below_two HB1.out hb2); clear h2 hb2))
          go_ret
          exact ⟨rfl, HB2.out⟩
end
end Go.Proofs.Ytmlocdfjjgbnjaa

namespace Go.Proofs.Ytmlocdfjjgbnjaa
open Go.RowKit

section
variable {H : World → (Nat → Prop) → Value → Cl.Cs → Prop}
set_option maxRecDepth 100000 in
set_option maxHeartbeats 8000000 in
theorem SweepTwice_walk (K : SweepOk H) (w : World) (v va : Value) (c : Cn.Ch) (act : List Int) (hS : Lc w v c) (hR : RngC c) (hA : Ln w va act) (hRA : RngN act) :
    Calls Try.prog 6 #[v, va] w fun e w' => e = .returned (.bool true) ∧ Below w.heap.size w w' := by
  have HS := Lib.hid hS
  have HA := Lib.hid hA
  have HR := Lib.hid hR
  have HRA := Lib.hid hRA
  have HK := Lib.hid K
  obtain ⟨A, cap, rfl, hcap⟩ := hS.form
  obtain ⟨B, capb, rfl, hcapb⟩ := hA.form
  clear hS hA hR hRA
  have HAw := Lib.hid (awake13_any K w)
  rcases big_cases c act with (b1 | ⟨b1, b2⟩) | ⟨b1, b2, l1, l2⟩
  · go_enter Try.func6, Try.ntmps6
    go_wp2_with (go_at_call 9; refine HAw.out.mono ?_; rintro e w0 ⟨rfl, b0⟩)
    go_ret
    exact ⟨rfl, b0⟩
  · go_enter Try.func6, Try.ntmps6
    go_wp2_with (go_at_call 9; refine HAw.out.mono ?_; rintro e w0 ⟨rfl, b0⟩)
    go_ret
    exact ⟨rfl, b0⟩
  · cases hmay : Cn.mayB c with
    | false =>
      have HMay := Lib.hid hmay
      clear hmay
      go_enter Try.func6, Try.ntmps6
      go_wp2_with (first
        | (go_at_call 9; refine HAw.out.mono ?_; rintro e w0 ⟨rfl, b0⟩; have HB0 := Lib.hid b0; have HMy := Lib.hid (rmay13L (HS.out.below b0) (by omega)); rw [HMay.out] at HMy; clear b0 HAw)
        | (go_at_call 18; refine HMy.out.mono ?_; rintro e w1 ⟨rfl, b1⟩; have HB1 := Lib.hid (below_two HB0.out b1); clear b1))
      go_ret
      exact ⟨rfl, HB1.out⟩
    | true =>
      have HMay := Lib.hid hmay
      have hM := (Cn.mayB_iff c).1 hmay
      obtain ⟨hf, hhf⟩ : ∃ hf, hf = act.length / 2 := ⟨_, rfl⟩
      have hq1 : (act.length : Int).tdiv 2 = (hf : Int) := by rw [Int.tdiv_eq_ediv_of_nonneg (by omega)]; omega
      have hq2 : (act.length : Int) / 2 = (hf : Int) := by omega
      have hh1 : hf ≤ act.length := by omega
      clear hhf
      have HRT : Hid (RngN (act.take hf)) := Lib.hid (fun a ha => HRA.out a (List.mem_of_mem_take ha))
      have HMo : Hid (∀ k (hk : k < c.length), Sw.needB c (act.take hf) c[k] = true → Sw.needB c act c[k] = true) := Lib.hid (fun k hk h => Sw.need_mono (fun a ha => List.mem_of_mem_take ha) h)
      have hh : hf ≤ capb := by omega
      clear hmay
      by_cases hy : Sw.pruneC c act = []
      · have HY : Hid ((Sw.pruneC c act).length = 0) := Lib.hid (by rw [hy]; rfl)
        clear hy hM
        go_enter Try.func6, Try.ntmps6
        go_wp2_with (first
          | (go_at_call 9; refine HAw.out.mono ?_; rintro e w0 ⟨rfl, b0⟩; have HB0 := Lib.hid b0; have HL0 := Lib.hid (And.intro (HS.out.below b0) (HA.out.below b0)); have HMy := Lib.hid (rmay13L (HL0.out.1) (by omega)); rw [HMay.out] at HMy; clear b0 HAw)
          | (go_at_call 18; refine HMy.out.mono ?_; rintro e w0' ⟨rfl, b0⟩; have HB0' := Lib.hid (below_two HB0.out b0); have HL0' := Lib.hid (And.intro (HL0.out.1.below b0) (HL0.out.2.below b0)); clear b0 HMy HB0 HL0; have HB0 := HB0'; have HL0 := HL0')
          | (go_at_call 10; with_reducible refine (made13L ((HL0.out.1)) (by omega)).mono ?_; rintro e w1 ⟨v1, rfl, h1, b1⟩; obtain ⟨Ax, cx, rfl, hcx⟩ := h1.form; have HL1 := Lib.hid (And.intro ((HL0.out.1).below b1) (And.intro ((HL0.out.2).below b1) (h1))); have HB1 := Lib.hid (below_two HB0.out b1); clear b1 h1)
          | (go_at_call 16; with_reducible refine (HK.out.pruneL ((HL1.out.2.2)) (by omega) HR.out ((HL1.out.2.1)) (by omega) HRA.out).mono ?_; rintro e w2 ⟨v2, rfl, h2, b2⟩; obtain ⟨Ay, cy, rfl, hcy⟩ := h2.form; rw [HY.out]; have HL2 := Lib.hid (And.intro ((HL1.out.1).below b2) (And.intro ((HL1.out.2.1).below b2) (And.intro ((HL1.out.2.2).below b2) (h2)))); have HB2 := Lib.hid (below_two HB1.out b2); clear b2 h2)
          | (go_at_call 12; with_reducible refine (HK.out.neededL ((HL2.out.2.2.1)) (by omega) HR.out ((HL2.out.2.1)) (by omega) HRA.out).mono ?_; rintro e w3 ⟨v6, rfl, h6, b3⟩; obtain ⟨An, cn, rfl, hcn⟩ := h6.form; rw [needs_len] at hcn ⊢; have HL3 := Lib.hid (And.intro ((HL2.out.1).below b3) (And.intro ((HL2.out.2.1).below b3) (And.intro ((HL2.out.2.2.1).below b3) (And.intro ((HL2.out.2.2.2).below b3) (h6))))); have HB3 := Lib.hid (below_two HB2.out b3); clear b3 h6)
          | (go_at_call 12; with_reducible refine (HK.out.neededL ((HL3.out.2.2.1)) (by omega) HR.out (Ln.take ((HL3.out.2.1)) hf (by omega)) (by rw [List.length_take]; omega) HRT.out).mono ?_; rintro e w4 ⟨v7, rfl, h7, b4⟩; obtain ⟨Am, cm, rfl, hcm⟩ := h7.form; rw [needs_len] at hcm ⊢; have HL4 := Lib.hid (And.intro ((HL3.out.1).below b4) (And.intro ((HL3.out.2.1).below b4) (And.intro ((HL3.out.2.2.1).below b4) (And.intro ((HL3.out.2.2.2.1).below b4) (And.intro ((HL3.out.2.2.2.2).below b4) (h7)))))); have HB4 := Lib.hid (below_two HB3.out b4); clear b4 h7))
        go_loopw [10] (fun iv wr => ∃ k : Nat, k ≤ c.length ∧ iv = .int .i64 (k : Int) ∧ Hid (wr = w4)) (fun iv _ => c.length - (intOf iv).toNat)
        case atStart => exact ⟨0, Nat.zero_le _, rfl, Lib.hid rfl⟩
        case round =>
          obtain ⟨k, hk, rfl, HW⟩ := hrel
          obtain rfl := HW.out
          by_cases hlt : k < c.length
          · have hlt' : (k : Int) < (c.length : Int) := by omega
            have hk0 : (0 : Int) ≤ (k : Int) := by omega
            obtain ⟨a, _, ea, _, _, xa⟩ := Lo.nth HL4.out.2.2.2.2.1 k (by rw [needs_len]; exact hlt)
            obtain ⟨b, _, eb, _, _, xb⟩ := Lo.nth HL4.out.2.2.2.2.2 k (by rw [needs_len]; exact hlt)
            obtain rfl : An = some a := (Value.slice.inj ea).1
            obtain rfl : Am = some b := (Value.slice.inj eb).1
            clear ea eb
            have hm := HMo.out k hlt
            have e1 : (Sw.needs c act)[k]'(by rw [needs_len]; exact hlt) = Sw.needB c act c[k] := by unfold Sw.needs; exact List.getElem_map ..
            have e2 : (Sw.needs c (act.take hf))[k]'(by rw [needs_len]; exact hlt) = Sw.needB c (act.take hf) c[k] := by unfold Sw.needs; exact List.getElem_map ..
            rw [e1] at xa
            rw [e2] at xb
            clear e1 e2
            generalize Sw.needB c act c[k] = na at *
            generalize Sw.needB c (act.take hf) c[k] = nb at *
            cases nb with
            | false =>
              clear hm
              go_wp2
              go_roundw
              case rel => exact ⟨k + 1, by omega, by go_num, Lib.hid trivial⟩
              case measure => simp [intOf]; omega
            | true =>
              obtain rfl := hm rfl
              clear hm
              go_wp2
              go_roundw
              case rel => exact ⟨k + 1, by omega, by go_num, Lib.hid trivial⟩
              case measure => simp [intOf]; omega
          · obtain rfl : k = c.length := by omega
            have hlt' : ¬ (c.length : Int) < (c.length : Int) := by omega
            go_wp2
            go_ret
            exact ⟨rfl, HB4.out⟩
      · obtain ⟨y, hyy⟩ : ∃ y, y = Sw.pruneC c act := ⟨_, rfl⟩
        have HY : Hid (Sw.pruneC c act = y) := Lib.hid hyy.symm
        have HYl : Hid (y.length ≤ 200) := Lib.hid (by rw [hyy]; have := (Sw.prune_sub (c := c) (act := act)).length_le; omega)
        have HYr : Hid (RngC y) := Lib.hid (by rw [hyy]; exact HR.out.prune act)
        have HYY : Hid (Sw.pruneC y act = y) := Lib.hid (by rw [hyy]; exact Sw.prune_prune HR.out.max hy)
        have hy0 : (y.length : Int) > 0 := by
          have : y.length ≠ 0 := fun e => hy (by rw [← hyy]; exact List.length_eq_zero_iff.1 e)
          omega
        clear hy hyy hM
        go_enter Try.func6, Try.ntmps6
        go_wp2_with (first
          | (go_at_call 9; refine HAw.out.mono ?_; rintro e w0 ⟨rfl, b0⟩; have HB0 := Lib.hid b0; have HL0 := Lib.hid (And.intro (HS.out.below b0) (HA.out.below b0)); have HMy := Lib.hid (rmay13L (HL0.out.1) (by omega)); rw [HMay.out] at HMy; clear b0 HAw)
          | (go_at_call 18; refine HMy.out.mono ?_; rintro e w0' ⟨rfl, b0⟩; have HB0' := Lib.hid (below_two HB0.out b0); have HL0' := Lib.hid (And.intro (HL0.out.1.below b0) (HL0.out.2.below b0)); clear b0 HMy HB0 HL0; have HB0 := HB0'; have HL0 := HL0')
          | (go_at_call 10; with_reducible refine (made13L ((HL0.out.1)) (by omega)).mono ?_; rintro e w1 ⟨v1, rfl, h1, b1⟩; obtain ⟨Ax, cx, rfl, hcx⟩ := h1.form; have HL1 := Lib.hid (And.intro ((HL0.out.1).below b1) (And.intro ((HL0.out.2).below b1) (h1))); have HB1 := Lib.hid (below_two HB0.out b1); clear b1 h1)
          | (go_at_call 16; with_reducible refine (HK.out.pruneL ((HL1.out.2.2)) (by omega) HR.out ((HL1.out.2.1)) (by omega) HRA.out).mono ?_; rintro e w2 ⟨v2, rfl, h2, b2⟩; obtain ⟨Ay, cy, rfl, hcy⟩ := h2.form; rw [HY.out] at h2 hcy ⊢; have HL2 := Lib.hid (And.intro ((HL1.out.1).below b2) (And.intro ((HL1.out.2.1).below b2) (And.intro ((HL1.out.2.2).below b2) (h2)))); have HB2 := Lib.hid (below_two HB1.out b2); clear b2 h2)
          | (go_at_call 16; with_reducible refine (HK.out.pruneL ((HL2.out.2.2.2)) HYl.out HYr.out ((HL2.out.2.1)) (by omega) HRA.out).mono ?_; rintro e w3 ⟨v3, rfl, h3, b3⟩; rw [HYY.out] at h3; have HL3 := Lib.hid (And.intro ((HL2.out.1).below b3) (And.intro ((HL2.out.2.1).below b3) (And.intro ((HL2.out.2.2.1).below b3) (And.intro ((HL2.out.2.2.2).below b3) (h3))))); have HB3 := Lib.hid (below_two HB2.out b3); clear b3 h3)
          | (go_at_call 15; with_reducible refine (real13L ((HL3.out.2.2.2.2)) (Nat.le_trans HYl.out (by decide))).mono ?_; rintro e w4 ⟨v4, rfl, h4, b4⟩; have HL4 := Lib.hid (And.intro ((HL3.out.1).below b4) (And.intro ((HL3.out.2.1).below b4) (And.intro ((HL3.out.2.2.1).below b4) (And.intro ((HL3.out.2.2.2.1).below b4) (And.intro ((HL3.out.2.2.2.2).below b4) (h4)))))); have HB4 := Lib.hid (below_two HB3.out b4); clear b4 h4)
          | (go_at_call 15; with_reducible refine (real13L ((HL4.out.2.2.2.1)) (Nat.le_trans HYl.out (by decide))).mono ?_; rintro e w5 ⟨v5, rfl, h5, b5⟩; have HL5 := Lib.hid (And.intro ((HL4.out.1).below b5) (And.intro ((HL4.out.2.1).below b5) (And.intro ((HL4.out.2.2.1).below b5) (And.intro ((HL4.out.2.2.2.1).below b5) (And.intro ((HL4.out.2.2.2.2.1).below b5) (And.intro ((HL4.out.2.2.2.2.2).below b5) (h5))))))); have HB5 := Lib.hid (below_two HB4.out b5); clear b5 h5)
          | (go_at_call 14; with_reducible refine (same13L ((HL5.out.2.2.2.2.2.1)) ((HL5.out.2.2.2.2.2.2)) (Nat.le_trans HYl.out (by decide))).mono ?_; rintro e w6 ⟨rfl, b6⟩; have HL6 := Lib.hid (And.intro ((HL5.out.1).below b6) (And.intro ((HL5.out.2.1).below b6) (And.intro ((HL5.out.2.2.1).below b6) (And.intro ((HL5.out.2.2.2.1).below b6) (And.intro ((HL5.out.2.2.2.2.1).below b6) (And.intro ((HL5.out.2.2.2.2.2.1).below b6) ((HL5.out.2.2.2.2.2.2).below b6))))))); have HB6 := Lib.hid (below_two HB5.out b6); clear b6)
          | (go_at_call 12; with_reducible refine (HK.out.neededL ((HL6.out.2.2.1)) (by omega) HR.out ((HL6.out.2.1)) (by omega) HRA.out).mono ?_; rintro e w7 ⟨v6, rfl, h6, b7⟩; obtain ⟨An, cn, rfl, hcn⟩ := h6.form; rw [needs_len] at hcn ⊢; have HL7 := Lib.hid (And.intro ((HL6.out.1).below b7) (And.intro ((HL6.out.2.1).below b7) (And.intro ((HL6.out.2.2.1).below b7) (And.intro ((HL6.out.2.2.2.1).below b7) (And.intro ((HL6.out.2.2.2.2.1).below b7) (And.intro ((HL6.out.2.2.2.2.2.1).below b7) (And.intro ((HL6.out.2.2.2.2.2.2).below b7) (h6)))))))); have HB7 := Lib.hid (below_two HB6.out b7); clear b7 h6)
          | (go_at_call 12; with_reducible refine (HK.out.neededL ((HL7.out.2.2.1)) (by omega) HR.out (Ln.take ((HL7.out.2.1)) hf (by omega)) (by rw [List.length_take]; omega) HRT.out).mono ?_; rintro e w8 ⟨v7, rfl, h7, b8⟩; obtain ⟨Am, cm, rfl, hcm⟩ := h7.form; rw [needs_len] at hcm ⊢; have HL8 := Lib.hid (And.intro ((HL7.out.1).below b8) (And.intro ((HL7.out.2.1).below b8) (And.intro ((HL7.out.2.2.1).below b8) (And.intro ((HL7.out.2.2.2.1).below b8) (And.intro ((HL7.out.2.2.2.2.1).below b8) (And.intro ((HL7.out.2.2.2.2.2.1).below b8) (And.intro ((HL7.out.2.2.2.2.2.2.1).below b8) (And.intro ((HL7.out.2.2.2.2.2.2.2).below b8) (h7))))))))); have HB8 := Lib.hid (below_two HB7.out b8); clear b8 h7))
        go_loopw [10] (fun iv wr => ∃ k : Nat, k ≤ c.length ∧ iv = .int .i64 (k : Int) ∧ Hid (wr = w8)) (fun iv _ => c.length - (intOf iv).toNat)
        case atStart => exact ⟨0, Nat.zero_le _, rfl, Lib.hid rfl⟩
        case round =>
          obtain ⟨k, hk, rfl, HW⟩ := hrel
          obtain rfl := HW.out
          by_cases hlt : k < c.length
          · have hlt' : (k : Int) < (c.length : Int) := by omega
            have hk0 : (0 : Int) ≤ (k : Int) := by omega
            obtain ⟨a, _, ea, _, _, xa⟩ := Lo.nth HL8.out.2.2.2.2.2.2.2.1 k (by rw [needs_len]; exact hlt)
            obtain ⟨b, _, eb, _, _, xb⟩ := Lo.nth HL8.out.2.2.2.2.2.2.2.2 k (by rw [needs_len]; exact hlt)
            obtain rfl : An = some a := (Value.slice.inj ea).1
            obtain rfl : Am = some b := (Value.slice.inj eb).1
            clear ea eb
            have hm := HMo.out k hlt
            have e1 : (Sw.needs c act)[k]'(by rw [needs_len]; exact hlt) = Sw.needB c act c[k] := by unfold Sw.needs; exact List.getElem_map ..
            have e2 : (Sw.needs c (act.take hf))[k]'(by rw [needs_len]; exact hlt) = Sw.needB c (act.take hf) c[k] := by unfold Sw.needs; exact List.getElem_map ..
            rw [e1] at xa
            rw [e2] at xb
            clear e1 e2
            generalize Sw.needB c act c[k] = na at *
            generalize Sw.needB c (act.take hf) c[k] = nb at *
            cases nb with
            | false =>
              clear hm
              go_wp2
              go_roundw
              case rel => exact ⟨k + 1, by omega, by go_num, Lib.hid trivial⟩
              case measure => simp [intOf]; omega
            | true =>
              obtain rfl := hm rfl
              clear hm
              go_wp2
              go_roundw
              case rel => exact ⟨k + 1, by omega, by go_num, Lib.hid trivial⟩
              case measure => simp [intOf]; omega
          · obtain rfl : k = c.length := by omega
            have hlt' : ¬ (c.length : Int) < (c.length : Int) := by omega
            go_wp2
            go_ret
            exact ⟨rfl, HB8.out⟩
end
end Go.Proofs.Ytmlocdfjjgbnjaa

namespace Go.Proofs.Ytmlocdfjjgbnjaa
open Go.RowKit

theorem seen_of {c : Cn.Ch} {ts : Int} (hm : Cn.May c) (h : ¬ Cn.look c ts < 0) : ∃ s, Cn.Seen c ts s := by
  rcases hm.cases ts with hl | ⟨a, v, b, hs⟩
  · exfalso
    apply h
    unfold Cn.look
    rw [Cn.at_low hl]
    decide
  · exact ⟨v, hs.seen hm⟩
theorem pruned_len (c : Cn.Ch) (act : List Int) : (Sw.prunedC c act).length ≤ c.length + 1 := by
  unfold Sw.prunedC
  split
  · simp [Cn.fresh]
  · have := (Sw.prune_sub (c := c) (act := act)).length_le; omega
theorem counts_rng {c : Cn.Ch} {act : List Int} (hr : RngC c) (ha : RngN act) : RngN (Sw.counts c act) := fun a h => by
  unfold Sw.counts at h
  rcases List.mem_append.1 h with h | h
  · exact ha a h
  · obtain ⟨v, hv, rfl⟩ := List.mem_map.1 h
    have := hr v (List.mem_filter.1 hv).1
    exact ⟨this.t0, this.t1⟩
theorem counts_snoc (c : Cn.Ch) (act : List Int) {k : Nat} (hlt : k < c.length) : Sw.counts (c.take (k + 1)) act = if c[k].done = true then Sw.counts (c.take k) act else Sw.counts (c.take k) act ++ [c[k].ts] := by
  rw [List.take_succ_eq_append_getElem hlt]
  unfold Sw.counts
  rw [List.filter_append, List.map_append]
  cases hd : c[k].done <;> simp [hd]

section
variable {H : World → (Nat → Prop) → Value → Cl.Cs → Prop}
set_option maxRecDepth 100000 in
set_option maxHeartbeats 16000000 in
theorem SweepSafe_walk (K : SweepOk H) (KC : ChainOk) (w : World) (v va : Value) (c : Cn.Ch) (act : List Int) (later : Nat) (hlat : later ≤ 255) (hS : Lc w v c) (hR : RngC c) (hA : Ln w va act) (hRA : RngN act) :
    Calls Try.prog 4 #[v, va, .int .u8 (later : Int)] w fun e w' => e = .returned (.bool true) ∧ Below w.heap.size w w' := by
  have HS := Lib.hid hS
  have HA := Lib.hid hA
  have HR := Lib.hid hR
  have HRA := Lib.hid hRA
  have HK := Lib.hid K
  obtain ⟨A, cap, rfl, hcap⟩ := hS.form
  obtain ⟨B, capb, rfl, hcapb⟩ := hA.form
  clear hS hA hR hRA
  have HAw := Lib.hid (awake13_any K w)
  rcases big_cases c act with (b1 | ⟨b1, b2⟩) | ⟨b1, b2, l1, l2⟩
  · go_enter Try.func4, Try.ntmps4
    go_wp2_with (go_at_call 9; refine HAw.out.mono ?_; rintro e w0 ⟨rfl, b0⟩)
    go_ret
    exact ⟨rfl, b0⟩
  · go_enter Try.func4, Try.ntmps4
    go_wp2_with (go_at_call 9; refine HAw.out.mono ?_; rintro e w0 ⟨rfl, b0⟩)
    go_ret
    exact ⟨rfl, b0⟩
  · cases hmay : Cn.mayB c with
    | false =>
      have HMay := Lib.hid hmay
      clear hmay
      go_enter Try.func4, Try.ntmps4
      go_wp2_with (first
        | (go_at_call 9; refine HAw.out.mono ?_; rintro e w0 ⟨rfl, b0⟩; have HB0 := Lib.hid b0; have HMy := Lib.hid (rmay13L (HS.out.below b0) (by omega)); rw [HMay.out] at HMy; clear b0 HAw)
        | (go_at_call 18; refine HMy.out.mono ?_; rintro e w1 ⟨rfl, b1⟩; have HB1 := Lib.hid (below_two HB0.out b1); clear b1))
      go_ret
      exact ⟨rfl, HB1.out⟩
    | true =>
      have HMay := Lib.hid hmay
      have HM := Lib.hid ((Cn.mayB_iff c).1 hmay)
      obtain ⟨yc, hyc⟩ : ∃ yc, yc = Sw.prunedC c act := ⟨_, rfl⟩
      have HYc : Hid (Sw.prunedC c act = yc) := Lib.hid hyc.symm
      have HYl : Hid (yc.length ≤ 61) := Lib.hid (by rw [hyc]; have := pruned_len c act; omega)
      have HYm : Hid (Cn.mayB yc = true) := Lib.hid (by rw [hyc]; exact (Cn.mayB_iff _).2 (Sw.pruned_may HR.out.max))
      have HPr : Hid (∀ W v va, Lc W v c → Ln W va act → Calls Try.prog 19 #[v, va] W fun e w' => ∃ v', e = .returned v' ∧ Lc w' v' yc ∧ Below W.heap.size W w') := Lib.hid (fun W v va h ha => by rw [hyc]; exact K.prunedL KC h (by omega) HR.out ha (by omega) HRA.out)
      have hl8 : (later : Int) ≤ 255 := by omega
      have hl0 : (0 : Int) ≤ (later : Int) := by omega
      clear hmay hyc
      go_enter Try.func4, Try.ntmps4
      go_wp2_with (first
        | (go_at_call 9; refine HAw.out.mono ?_; rintro e w0 ⟨rfl, b0⟩; have HB0 := Lib.hid b0; have HL0 := Lib.hid (And.intro (HS.out.below b0) (HA.out.below b0)); have HMy := Lib.hid (rmay13L (HL0.out.1) (by omega)); rw [HMay.out] at HMy; clear b0 HAw)
        | (go_at_call 18; refine HMy.out.mono ?_; rintro e w1 ⟨rfl, b1⟩; have HB1 := Lib.hid (below_two HB0.out b1); have HL1 := Lib.hid (And.intro (HL0.out.1.below b1) (HL0.out.2.below b1)); clear b1 HMy)
        | (go_at_call 10; refine (made13L (HL1.out.1) (by omega)).mono ?_; rintro e w2 ⟨vx, rfl, h2, b2⟩; obtain ⟨Ax, cx, rfl, hcx⟩ := h2.form; have HB2 := Lib.hid (below_two HB1.out b2); have HL2 := Lib.hid (And.intro (HL1.out.1.below b2) (And.intro (HL1.out.2.below b2) h2)); clear b2 h2)
        | (go_at_call 19; refine (HPr.out _ _ _ HL2.out.2.2 HL2.out.2.1).mono ?_; rintro e wB ⟨vy, rfl, h3, b3⟩; obtain ⟨Ay, cy, rfl, hcy⟩ := h3.form; have HBB := Lib.hid (below_two HB2.out b3); have HLB := Lib.hid (And.intro (HL2.out.1.below b3) (And.intro (HL2.out.2.1.below b3) (And.intro (HL2.out.2.2.below b3) h3))); clear b3 h3)
        | (at_builtin; obtain ⟨Fa, hsa, hFa⟩ := HLB.out.2.1; refine S.wpList_append_sg elN rfl _ _ rfl (base := wB.heap.size) (n := 0) (m := act.length) (xs := []) (cs := numV act) rfl rfl (S.own_none 2 1 rfl (Nat.le_refl _)) (S.Sg.below hsa ((Below.refl _ _).alloc (Nat.le_refl _) (.cells #[] 2)) hFa) (numV_one _) (by omega) (by omega) (by simp) ?_
           intro v4 w4 hown4 hgrow4 _
           have HB4 : Hid (Below wB.heap.size wB w4) := Lib.hid (((Below.refl _ _).alloc (Nat.le_refl _) (.cells #[] 2)).trans (S.below_base (S.own_none 2 1 rfl (Nat.le_refl _)) (by simp) hgrow4))
           have HO4 : Hid (w4.ownsRow wB.heap.size 2 1 v4 act.length (numV act)) := Lib.hid (by simpa using hown4)
           clear hown4 hgrow4 hsa hFa))
      go_loopw [10, 11, 12] (fun tv lv iv wr => ∃ (k : Nat) (t : Int) (L : List Int), k ≤ c.length ∧ L.length ≤ act.length + k ∧ tv = .int .i64 t ∧ iv = .int .i64 (k : Int) ∧ Hid (Sw.counts (c.take k) act = L) ∧ Hid (0 ≤ t ∧ ∀ j (hj : j < c.length), j < k → c[j].rd ≤ t) ∧ Hid (wr.ownsRow wB.heap.size 2 1 lv L.length (numV L)) ∧ Hid (Below wB.heap.size wB wr)) (fun _ _ iv _ => c.length - (intOf iv).toNat)
      case atStart => exact ⟨0, 0, act, Nat.zero_le _, by omega, rfl, rfl, Lib.hid (by simp [Sw.counts]), Lib.hid ⟨Int.le_refl _, fun j _ h => absurd h (Nat.not_lt_zero _)⟩, HO4, HB4⟩
      case round =>
        clear HO4 HB4
        obtain ⟨k, t, L, hk, hL, rfl, rfl, HI, HT, HO, HB⟩ := hrel
        obtain ⟨Ar, cr, rfl⟩ := own_slice HO.out
        by_cases hlt : k < c.length
        · have hlt' : (k : Int) < (c.length : Int) := by omega
          have hk0 : (0 : Int) ≤ (k : Int) := by omega
          obtain ⟨a, _, ea, _, ha9, y0, y1, _, y3⟩ := (HLB.out.1.below HB.out).nth k hlt
          obtain rfl : A = some a := (Value.slice.inj ea).1
          clear ea
          have HC := Lib.hid (counts_snoc c act hlt)
          obtain ⟨t2, ht2⟩ : ∃ t2, t2 = max t c[k].rd := ⟨_, rfl⟩
          have HT2 : Hid (0 ≤ t2 ∧ ∀ j (hj : j < c.length), j < k + 1 → c[j].rd ≤ t2) := Lib.hid ⟨by have := HT.out.1; omega, fun j hj hjk => by
            by_cases e : j = k
            · subst e; omega
            · have := HT.out.2 j hj (by omega); omega⟩
          have HY1 : Hid (∀ W, Below wB.heap.size wB W → W.cell? ⟨(a.add (k * 4)).block, (a.add (k * 4)).off + 1, none⟩ = some (.int .i64 c[k].rd)) := Lib.hid (fun W hb => by
            obtain ⟨a2, _, e2, _, _, _, z1, _⟩ := (HLB.out.1.below hb).nth k hlt
            obtain rfl : a = a2 := Option.some.inj (Value.slice.inj e2).1
            exact z1)
          generalize c[k].ts = u at *
          generalize c[k].rd = rd at *
          cases hd : c[k].done with
          | true =>
            rw [hd] at y3
            have HC2 : Hid (Sw.counts (c.take (k + 1)) act = L) := Lib.hid (by rw [HC.out, if_pos hd, HI.out])
            clear hd HC HY1
            by_cases hm : t < rd
            · have e2 : t2 = rd := by omega
              have e3 : max t rd = rd := by omega
              subst e2
              clear ht2
              go_wp2
              go_roundw
              case rel => exact ⟨k + 1, _, L, by omega, by omega, rfl, by go_num, HC2, HT2, HO, HB⟩
              case measure => simp [intOf]; omega
            · have e2 : t2 = t := by omega
              have e3 : max t rd = t := by omega
              subst e2
              clear ht2
              go_wp2
              go_roundw
              case rel => exact ⟨k + 1, _, L, by omega, by omega, rfl, by go_num, HC2, HT2, HO, HB⟩
              case measure => simp [intOf]; omega
          | false =>
            rw [hd] at y3
            have HC2 : Hid (Sw.counts (c.take (k + 1)) act = L ++ [u]) := Lib.hid (by rw [HC.out, if_neg (by rw [hd]; simp), HI.out])
            clear hd HC
            by_cases hm : t < rd
            · have e2 : t2 = rd := by omega
              have e3 : max t rd = rd := by omega
              subst e2
              clear ht2
              go_wp2_with (at_builtin; refine S.wpList_append_sg elN rfl _ _ rfl (base := wB.heap.size) (n := L.length) (m := 1) (xs := numV L) (cs := numV [u]) rfl rfl (HO.out.alloc _) (S.Sg.one wr 2 (.int .i64 u)) (numV_one _) (by omega) (by omega) (Nat.le_trans HB.out.size (by simp)) ?_)
              intro v5 w5 hown5 hgrow5 _
              have HB5 : Hid (Below wB.heap.size wB w5) := Lib.hid ((HB.out.alloc HB.out.size (.cells #[.int .i64 u] 2)).trans (S.below_base (HO.out.alloc _) (Nat.le_trans HB.out.size (by simp)) hgrow5))
              have HO5 : Hid (w5.ownsRow wB.heap.size 2 1 v5 (L ++ [u]).length (numV (L ++ [u]))) := Lib.hid (own_num hown5)
              have y1 := HY1.out w5 HB5.out
              clear hown5 hgrow5
              go_wp2
              go_roundw
              case rel => exact ⟨k + 1, _, L ++ [u], by omega, by simp; omega, rfl, by go_num, HC2, HT2, HO5, HB5⟩
              case measure => simp [intOf]; omega
            · have e2 : t2 = t := by omega
              have e3 : max t rd = t := by omega
              subst e2
              clear ht2
              go_wp2_with (at_builtin; refine S.wpList_append_sg elN rfl _ _ rfl (base := wB.heap.size) (n := L.length) (m := 1) (xs := numV L) (cs := numV [u]) rfl rfl (HO.out.alloc _) (S.Sg.one wr 2 (.int .i64 u)) (numV_one _) (by omega) (by omega) (Nat.le_trans HB.out.size (by simp)) ?_)
              intro v5 w5 hown5 hgrow5 _
              have HB5 : Hid (Below wB.heap.size wB w5) := Lib.hid ((HB.out.alloc HB.out.size (.cells #[.int .i64 u] 2)).trans (S.below_base (HO.out.alloc _) (Nat.le_trans HB.out.size (by simp)) hgrow5))
              have HO5 : Hid (w5.ownsRow wB.heap.size 2 1 v5 (L ++ [u]).length (numV (L ++ [u]))) := Lib.hid (own_num hown5)
              have y1 := HY1.out w5 HB5.out
              clear hown5 hgrow5
              go_wp2
              go_roundw
              case rel => exact ⟨k + 1, _, L ++ [u], by omega, by simp; omega, rfl, by go_num, HC2, HT2, HO5, HB5⟩
              case measure => simp [intOf]; omega
        · obtain rfl : k = c.length := by omega
          have hlt' : ¬ (c.length : Int) < (c.length : Int) := by omega
          have HLc : Hid (Sw.counts c act = L) := Lib.hid (by have := HI.out; rw [List.take_length] at this; exact this)
          have HT1 : Hid (0 ≤ t ∧ ∀ x ∈ c, x.rd ≤ t) := Lib.hid ⟨HT.out.1, fun x hx => by
            obtain ⟨j, hj, rfl⟩ := List.getElem_of_mem hx
            exact HT.out.2 j hj hj⟩
          clear HI HT
          obtain ⟨w9, hw9⟩ : ∃ w9, w9 = wr := ⟨_, rfl⟩
          rw [← hw9] at HO HB ⊢
          clear hw9
          have HN9 : Hid (Ln w9 (.slice Ar L.length cr) L) := Lib.hid ⟨_, S.Sg.of_own HO.out, fun b q => q.2⟩
          go_wp2_with fail
          go_loopw [10, 13] (fun tv iv wr => ∃ (k : Nat) (t : Int), k ≤ L.length ∧ tv = .int .i64 t ∧ iv = .int .i64 (k : Int) ∧ Hid (0 ≤ t ∧ (∀ x ∈ c, x.rd ≤ t) ∧ ∀ j (hj : j < L.length), j < k → L[j] ≤ t) ∧ Hid (wr = w9)) (fun _ iv _ => L.length - (intOf iv).toNat)
          case atStart => exact ⟨0, t, Nat.zero_le _, rfl, rfl, Lib.hid ⟨HT1.out.1, HT1.out.2, fun j _ h => absurd h (Nat.not_lt_zero _)⟩, Lib.hid rfl⟩
          case round =>
            clear HT1
            obtain ⟨k, t, hk, rfl, rfl, HT, HW⟩ := hrel
            obtain rfl := HW.out
            by_cases hlt : k < L.length
            · have hlt' : (k : Int) < (L.length : Int) := by omega
              have hk0 : (0 : Int) ≤ (k : Int) := by omega
              obtain ⟨a9, _, e9, _, _, x9⟩ := HN9.out.nth k hlt
              obtain rfl : Ar = some a9 := (Value.slice.inj e9).1
              clear e9
              obtain ⟨t2, ht2⟩ : ∃ t2, t2 = max t L[k] := ⟨_, rfl⟩
              have HT2 : Hid (0 ≤ t2 ∧ (∀ x ∈ c, x.rd ≤ t2) ∧ ∀ j (hj : j < L.length), j < k + 1 → L[j] ≤ t2) := Lib.hid ⟨by have := HT.out.1; omega, fun x hx => by have := HT.out.2.1 x hx; omega, fun j hj hjk => by
                by_cases e : j = k
                · subst e; omega
                · have := HT.out.2.2 j hj (by omega); omega⟩
              generalize L[k] = u at *
              by_cases hm : t < u
              · have e2 : t2 = u := by omega
                have e3 : max t u = u := by omega
                subst e2
                clear ht2
                go_wp2
                go_roundw
                case rel => exact ⟨k + 1, _, by omega, rfl, by go_num, HT2, Lib.hid trivial⟩
                case measure => simp [intOf]; omega
              · have e2 : t2 = t := by omega
                have e3 : max t u = t := by omega
                subst e2
                clear ht2
                go_wp2
                go_roundw
                case rel => exact ⟨k + 1, _, by omega, rfl, by go_num, HT2, Lib.hid trivial⟩
                case measure => simp [intOf]; omega
            · obtain rfl : k = L.length := by omega
              have hlt' : ¬ (L.length : Int) < (L.length : Int) := by omega
              have HLB9 : Hid (Lc wr (.slice Ax c.length cx) c ∧ Lc wr (.slice Ay yc.length cy) yc) := Lib.hid ⟨HLB.out.2.2.1.below HB.out, HLB.out.2.2.2.below HB.out⟩
              by_cases hmx : t ≤ 1099511627776
              · have dmx : decide (t ≤ 1099511627776) = true := decide_eq_true hmx
                have ht0 : 0 ≤ t := HT.out.1
                obtain ⟨z, hz⟩ : ∃ z, z = t + 1 + (later : Int) := ⟨_, rfl⟩
                have HZ := Lib.hid hz
                clear hz
                go_wp2_with (at_builtin; rw [← HZ.out]; refine S.wpList_append_sg elN rfl _ _ rfl (base := wB.heap.size) (n := L.length) (m := 1) (xs := numV L) (cs := numV [z]) rfl rfl (HO.out.alloc _) (S.Sg.one wr 2 (.int .i64 z)) (numV_one _) (by omega) (by omega) (Nat.le_trans HB.out.size (by simp)) ?_)
                intro v5 w5 hown5 hgrow5 _
                have hb5 : Below wr.heap.size wr (wr.alloc (.cells #[.int .i64 z] 2)) := (Below.refl _ _).alloc (Nat.le_refl _) _
                have HB5 : Hid (Below wB.heap.size wB w5) := Lib.hid ((HB.out.alloc HB.out.size (.cells #[.int .i64 z] 2)).trans (S.below_base (HO.out.alloc _) (Nat.le_trans HB.out.size (by simp)) hgrow5))
                have hown5 : w5.ownsRow wB.heap.size 2 1 v5 (L ++ [z]).length (numV (L ++ [z])) := own_num hown5
                obtain ⟨A9, c9, rfl⟩ := own_slice hown5
                obtain ⟨L2, hL2⟩ : ∃ L2, L2 = L ++ [z] := ⟨_, rfl⟩
                rw [← hL2] at hown5 ⊢
                have HL9 : Hid (Lc w5 (.slice Ax c.length cx) c ∧ Lc w5 (.slice Ay yc.length cy) yc ∧ Ln w5 (.slice A9 L2.length c9) L2) := Lib.hid ⟨HLB.out.2.2.1.below HB5.out, HLB.out.2.2.2.below HB5.out, ⟨_, S.Sg.of_own hown5, fun b q => q.2⟩⟩
                have HB9 := Lib.hid (below_two HBB.out HB5.out)
                have hl2 : L2.length ≤ 200 := by rw [hL2]; simp; omega
                have HIn : Hid (∀ k (hk : k < L2.length), L2[k] ∈ Sw.counts c act ∨ ∀ x ∈ c, x.rd < L2[k]) := Lib.hid (fun k hk => by
                  have := List.getElem_mem hk
                  generalize L2[k] = q at *
                  rw [hL2] at this
                  rcases List.mem_append.1 this with h | h
                  · rw [HLc.out]; exact Or.inl h
                  · rw [List.mem_singleton] at h
                    right
                    intro x hx
                    have := HT.out.2.1 x hx
                    have := HZ.out
                    omega)
                have HRn : Hid (RngN L2) := Lib.hid (fun a ha => by
                  rw [hL2] at ha
                  rcases List.mem_append.1 ha with h | h
                  · rw [← HLc.out] at h; exact counts_rng HR.out HRA.out a h
                  · rw [List.mem_singleton] at h
                    have := HZ.out
                    omega)
                clear hgrow5 hown5 hb5 hL2 HT HZ HO HB HB5 HLB HLc HN9 hmx dmx ht0
                go_wp2_with fail
                have HSf : Hid (∀ k (hk : k < L2.length), 1 ≤ L2[k] → ¬ Cn.look c L2[k] < 0 → ∃ rt rr, Cn.readV yc L2[k] = ⟨rt, rr, (Cn.readV c L2[k]).val, (Cn.readV c L2[k]).done⟩ ∧ Cn.writeE yc L2[k] = Cn.writeE c L2[k]) := Lib.hid (fun k hk h1 h2 => by
                  obtain ⟨s, hs⟩ := seen_of HM.out h2
                  have h3 := Sw.safe (act := act) HM.out HR.out.max h1 hs (HIn.out k hk)
                  rw [HYc.out] at h3
                  refine ⟨(Cn.readV yc L2[k]).ts, (Cn.readV yc L2[k]).rd, ?_, h3.2.2.symm⟩
                  rw [h3.1, h3.2.1])
                have HI6 : Hid (∀ k (hk : k < L2.length), -9223372036854775808 ≤ L2[k] ∧ L2[k] ≤ 9223372036854775807) := Lib.hid (fun k hk => HRn.out _ (List.getElem_mem hk))
                clear HIn HRn
                go_loopw [14] (fun iv wr => ∃ k : Nat, k ≤ L2.length ∧ iv = .int .i64 (k : Int) ∧ Hid (Below w.heap.size w wr) ∧ Hid (Lc wr (.slice Ax c.length cx) c ∧ Lc wr (.slice Ay yc.length cy) yc ∧ Ln wr (.slice A9 L2.length c9) L2)) (fun iv _ => L2.length - (intOf iv).toNat)
                case atStart => exact ⟨0, Nat.zero_le _, rfl, HB9, HL9⟩
                case round =>
                  clear HB9 HL9
                  obtain ⟨k, hk, rfl, HBr, HLr⟩ := hrel
                  by_cases hlt : k < L2.length
                  · have hlt' : (k : Int) < (L2.length : Int) := by omega
                    have hk0 : (0 : Int) ≤ (k : Int) := by omega
                    obtain ⟨ai, _, ei, _, _, xi⟩ := HLr.out.2.2.nth k hlt
                    obtain rfl : A9 = some ai := (Value.slice.inj ei).1
                    clear ei
                    have HXi : Hid (∀ W, Ln W (.slice (some ai) L2.length c9) L2 → W.cell? (ai.add k) = some (.int .i64 L2[k])) := Lib.hid (fun W h => by
                      obtain ⟨a2, _, e2, _, _, x2⟩ := h.nth k hlt
                      obtain rfl : ai = a2 := Option.some.inj (Value.slice.inj e2).1
                      exact x2)
                    have hi6 := HI6.out k hlt
                    have HS1 := Lib.hid (HSf.out k hlt)
                    have HLk : Hid (∀ W v, Lc W v c → Calls Try.prog 20 #[v, .int .i64 L2[k]] W fun e w' => e = .returned (.int .i64 (Cn.look c L2[k])) ∧ Below W.heap.size W w') := Lib.hid (fun W v h => KC.lookL h (by omega) _ hi6.1 hi6.2)
                    have HRx0 : Hid (∀ W v, Lc W v c → Calls Try.prog 21 #[v, .int .i64 L2[k]] W fun e w' => ∃ v', e = .returned (.tuple #[v', verA (Cn.readV c L2[k])]) ∧ Lc w' v' (Cn.readC c L2[k]) ∧ Below W.heap.size W w') := Lib.hid (fun W v h => KC.readL h (by omega) _ hi6.1 hi6.2)
                    have HRy0 : Hid (∀ W v, Lc W v yc → Calls Try.prog 21 #[v, .int .i64 L2[k]] W fun e w' => ∃ v', e = .returned (.tuple #[v', verA (Cn.readV yc L2[k])]) ∧ Lc w' v' (Cn.readC yc L2[k]) ∧ Below W.heap.size W w') := Lib.hid (fun W v h => KC.readL h (by have := HYl.out; omega) _ hi6.1 hi6.2)
                    have HWx : Hid (∀ W v, Lc W v c → Calls Try.prog 22 #[v, .int .i64 L2[k], .string ⟨#[119]⟩] W fun e w' => ∃ v', e = .returned (.tuple #[v', .int .i64 (Cn.writeE c L2[k])]) ∧ Lc w' v' (Cn.writeC c L2[k] ⟨#[119]⟩) ∧ Below W.heap.size W w') := Lib.hid (fun W v h => KC.writeL h (by omega) _ _ hi6.1 hi6.2)
                    have HWy : Hid (∀ W v, Lc W v yc → Calls Try.prog 22 #[v, .int .i64 L2[k], .string ⟨#[119]⟩] W fun e w' => ∃ v', e = .returned (.tuple #[v', .int .i64 (Cn.writeE yc L2[k])]) ∧ Lc w' v' (Cn.writeC yc L2[k] ⟨#[119]⟩) ∧ Below W.heap.size W w') := Lib.hid (fun W v h => KC.writeL h (by have := HYl.out; omega) _ _ hi6.1 hi6.2)
                    clear hi6
                    generalize L2[k] = ts at *
                    by_cases h1 : ts < 1
                    · have d1 : decide (ts < 1) = true := decide_eq_true h1
                      clear HS1 HLk HRx0 HRy0 HWx HWy
                      go_wp2
                      go_roundw
                      case rel => exact ⟨k + 1, by omega, by go_num, HBr, HLr⟩
                      case measure => simp [intOf]; omega
                    · have d1 : decide (ts < 1) = false := decide_eq_false h1
                      by_cases h2 : Cn.look c ts < 0
                      · clear HS1 HRx0 HRy0 HWx HWy
                        generalize Cn.look c ts = lk at *
                        have d2 : decide (lk < 0) = true := decide_eq_true h2
                        go_wp2_with (go_at_call 20; with_reducible refine (HLk.out _ _ ((HLr.out.1))).mono ?_; rintro e w21 ⟨rfl, b21⟩; have HL21 := Lib.hid (And.intro ((HLr.out.1).below b21) (And.intro ((HLr.out.2.1).below b21) ((HLr.out.2.2).below b21))); have HB21 := Lib.hid (below_two HBr.out b21); clear b21)
                        go_roundw
                        case rel => exact ⟨k + 1, by omega, by go_num, HB21, HL21⟩
                        case measure => simp [intOf]; omega
                      · obtain ⟨rt, rr, hrb, hwe⟩ := HS1.out (by omega) h2
                        have HRx : Hid (∀ W v, Lc W v c → Calls Try.prog 21 #[v, .int .i64 ts] W fun e w' => ∃ v', e = .returned (.tuple #[v', .agg #[.int .i64 (Cn.readV c ts).ts, .int .i64 (Cn.readV c ts).rd, .string (Cn.readV c ts).val, .bool (Cn.readV c ts).done]]) ∧ Lc w' v' (Cn.readC c ts) ∧ Below W.heap.size W w') := HRx0
                        have HRy : Hid (∀ W v, Lc W v yc → Calls Try.prog 21 #[v, .int .i64 ts] W fun e w' => ∃ v', e = .returned (.tuple #[v', .agg #[.int .i64 rt, .int .i64 rr, .string (Cn.readV c ts).val, .bool (Cn.readV c ts).done]]) ∧ Lc w' v' (Cn.readC yc ts) ∧ Below W.heap.size W w') := Lib.hid (fun W v h => by
                          have := HRy0.out W v h
                          rw [hrb] at this
                          exact this)
                        rw [hwe] at HWy
                        clear HS1 HRx0 HRy0 hrb hwe
                        generalize Cn.readV c ts = ra at *
                        generalize Cn.writeE c ts = we at *
                        generalize Cn.look c ts = lk at *
                        have d2 : decide (lk < 0) = false := decide_eq_false h2
                        go_wp2_with (first
                          | (go_at_call 20; with_reducible refine (HLk.out _ _ ((HLr.out.1))).mono ?_; rintro e w21 ⟨rfl, b21⟩; have HL21 := Lib.hid (And.intro ((HLr.out.1).below b21) (And.intro ((HLr.out.2.1).below b21) ((HLr.out.2.2).below b21))); have HB21 := Lib.hid (below_two HBr.out b21); have xi := HXi.out _ (HL21.out.2.2); clear b21)
                          | (go_at_call 21; with_reducible refine (HRx.out _ _ ((HL21.out.1))).mono ?_; rintro e w22 ⟨v22, rfl, h22, b22⟩; have BA := Lib.hid (Bk.new w22 [.int .i64 ra.ts, .int .i64 ra.rd, .string ra.val, .bool ra.done] 40 rfl); have b22 := b22.alloc b22.size (.cells #[.int .i64 ra.ts, .int .i64 ra.rd, .string ra.val, .bool ra.done] 40); have HL22 := Lib.hid (And.intro ((HL21.out.1).below b22) (And.intro ((HL21.out.2.1).below b22) ((HL21.out.2.2).below b22))); have HB22 := Lib.hid (below_two HB21.out b22); have xi := HXi.out _ (HL22.out.2.2); clear b22 h22 HRx)
                          | (go_at_call 21; with_reducible refine (HRy.out _ _ ((HL22.out.2.1))).mono ?_; rintro e w23 ⟨v23, rfl, h23, b23⟩; have BB := Lib.hid (Bk.new w23 [.int .i64 rt, .int .i64 rr, .string ra.val, .bool ra.done] 40 rfl); have b23 := b23.alloc b23.size (.cells #[.int .i64 rt, .int .i64 rr, .string ra.val, .bool ra.done] 40); have BA := Lib.hid (BA.out.step b23); have HL23 := Lib.hid (And.intro ((HL22.out.1).below b23) (And.intro ((HL22.out.2.1).below b23) ((HL22.out.2.2).below b23))); have HB23 := Lib.hid (below_two HB22.out b23); have xi := HXi.out _ (HL23.out.2.2); clear b23 h23 HRy)
                          | (go_at_call 22; with_reducible refine (HWx.out _ _ ((HL23.out.1))).mono ?_; rintro e w24 ⟨v24, rfl, h24, b24⟩; have BA := Lib.hid (BA.out.step b24); have BB := Lib.hid (BB.out.step b24); have HL24 := Lib.hid (And.intro ((HL23.out.1).below b24) (And.intro ((HL23.out.2.1).below b24) ((HL23.out.2.2).below b24))); have HB24 := Lib.hid (below_two HB23.out b24); have xi := HXi.out _ (HL24.out.2.2); clear b24 h24 HWx)
                          | (go_at_call 22; with_reducible refine (HWy.out _ _ ((HL24.out.2.1))).mono ?_; rintro e w25 ⟨v25, rfl, h25, b25⟩; have BA := Lib.hid (BA.out.step b25); have BB := Lib.hid (BB.out.step b25); have HL25 := Lib.hid (And.intro ((HL24.out.1).below b25) (And.intro ((HL24.out.2.1).below b25) ((HL24.out.2.2).below b25))); have HB25 := Lib.hid (below_two HB24.out b25); have p2 := BA.out.cell 2 _ rfl; have p3 := BA.out.cell 3 _ rfl; have q2 := BB.out.cell 2 _ rfl; have q3 := BB.out.cell 3 _ rfl; clear b25 h25 HWy))
                        go_roundw
                        case rel => exact ⟨k + 1, by omega, by go_num, HB25, HL25⟩
                        case measure => simp [intOf]; omega
                  · obtain rfl : k = L2.length := by omega
                    have hlt' : ¬ (L2.length : Int) < (L2.length : Int) := by omega
                    have HMy : Hid (∀ W v, Lc W v yc → Calls Try.prog 23 #[v] W fun e w' => e = .returned (.bool (Cn.mayB yc)) ∧ Below W.heap.size W w') := Lib.hid (fun W v h => KC.mayL h (by have := HYl.out; omega))
                    rw [HYm.out] at HMy
                    go_wp2_with (go_at_call 23; refine (HMy.out _ _ HLr.out.2.1).mono ?_; rintro e w30 ⟨rfl, b30⟩; have HB30 := Lib.hid (below_two HBr.out b30); clear b30)
                    go_ret
                    exact ⟨rfl, HB30.out⟩
              · have dmx : decide (t ≤ 1099511627776) = false := decide_eq_false hmx
                have HL9 : Hid (Lc wr (.slice Ax c.length cx) c ∧ Lc wr (.slice Ay yc.length cy) yc ∧ Ln wr (.slice Ar L.length cr) L) := Lib.hid ⟨HLB9.out.1, HLB9.out.2, HN9.out⟩
                have HB9 := Lib.hid (below_two HBB.out HB.out)
                have hl2 : L.length ≤ 200 := by omega
                have HIn : Hid (∀ k (hk : k < L.length), L[k] ∈ Sw.counts c act ∨ ∀ x ∈ c, x.rd < L[k]) := Lib.hid (fun k hk => Or.inl (by rw [HLc.out]; exact List.getElem_mem hk))
                have HRn : Hid (RngN L) := Lib.hid (by rw [← HLc.out]; exact counts_rng HR.out HRA.out)
                obtain ⟨A9, hA9⟩ : ∃ A9, A9 = Ar := ⟨_, rfl⟩
                obtain ⟨c9, hc9⟩ : ∃ c9, c9 = cr := ⟨_, rfl⟩
                rw [← hA9, ← hc9] at HL9 ⊢
                clear HT HO HB HLB HLc HN9 HLB9 hmx
                clear hA9 hc9
                go_wp2_with fail
                have HSf : Hid (∀ k (hk : k < L.length), 1 ≤ L[k] → ¬ Cn.look c L[k] < 0 → ∃ rt rr, Cn.readV yc L[k] = ⟨rt, rr, (Cn.readV c L[k]).val, (Cn.readV c L[k]).done⟩ ∧ Cn.writeE yc L[k] = Cn.writeE c L[k]) := Lib.hid (fun k hk h1 h2 => by
                  obtain ⟨s, hs⟩ := seen_of HM.out h2
                  have h3 := Sw.safe (act := act) HM.out HR.out.max h1 hs (HIn.out k hk)
                  rw [HYc.out] at h3
                  refine ⟨(Cn.readV yc L[k]).ts, (Cn.readV yc L[k]).rd, ?_, h3.2.2.symm⟩
                  rw [h3.1, h3.2.1])
                have HI6 : Hid (∀ k (hk : k < L.length), -9223372036854775808 ≤ L[k] ∧ L[k] ≤ 9223372036854775807) := Lib.hid (fun k hk => HRn.out _ (List.getElem_mem hk))
                clear HIn HRn
                go_loopw [14] (fun iv wr => ∃ k : Nat, k ≤ L.length ∧ iv = .int .i64 (k : Int) ∧ Hid (Below w.heap.size w wr) ∧ Hid (Lc wr (.slice Ax c.length cx) c ∧ Lc wr (.slice Ay yc.length cy) yc ∧ Ln wr (.slice A9 L.length c9) L)) (fun iv _ => L.length - (intOf iv).toNat)
                case atStart => exact ⟨0, Nat.zero_le _, rfl, HB9, HL9⟩
                case round =>
                  clear HB9 HL9
                  obtain ⟨k, hk, rfl, HBr, HLr⟩ := hrel
                  by_cases hlt : k < L.length
                  · have hlt' : (k : Int) < (L.length : Int) := by omega
                    have hk0 : (0 : Int) ≤ (k : Int) := by omega
                    obtain ⟨ai, _, ei, _, _, xi⟩ := HLr.out.2.2.nth k hlt
                    obtain rfl : A9 = some ai := (Value.slice.inj ei).1
                    clear ei
                    have HXi : Hid (∀ W, Ln W (.slice (some ai) L.length c9) L → W.cell? (ai.add k) = some (.int .i64 L[k])) := Lib.hid (fun W h => by
                      obtain ⟨a2, _, e2, _, _, x2⟩ := h.nth k hlt
                      obtain rfl : ai = a2 := Option.some.inj (Value.slice.inj e2).1
                      exact x2)
                    have hi6 := HI6.out k hlt
                    have HS1 := Lib.hid (HSf.out k hlt)
                    have HLk : Hid (∀ W v, Lc W v c → Calls Try.prog 20 #[v, .int .i64 L[k]] W fun e w' => e = .returned (.int .i64 (Cn.look c L[k])) ∧ Below W.heap.size W w') := Lib.hid (fun W v h => KC.lookL h (by omega) _ hi6.1 hi6.2)
                    have HRx0 : Hid (∀ W v, Lc W v c → Calls Try.prog 21 #[v, .int .i64 L[k]] W fun e w' => ∃ v', e = .returned (.tuple #[v', verA (Cn.readV c L[k])]) ∧ Lc w' v' (Cn.readC c L[k]) ∧ Below W.heap.size W w') := Lib.hid (fun W v h => KC.readL h (by omega) _ hi6.1 hi6.2)
                    have HRy0 : Hid (∀ W v, Lc W v yc → Calls Try.prog 21 #[v, .int .i64 L[k]] W fun e w' => ∃ v', e = .returned (.tuple #[v', verA (Cn.readV yc L[k])]) ∧ Lc w' v' (Cn.readC yc L[k]) ∧ Below W.heap.size W w') := Lib.hid (fun W v h => KC.readL h (by have := HYl.out; omega) _ hi6.1 hi6.2)
                    have HWx : Hid (∀ W v, Lc W v c → Calls Try.prog 22 #[v, .int .i64 L[k], .string ⟨#[119]⟩] W fun e w' => ∃ v', e = .returned (.tuple #[v', .int .i64 (Cn.writeE c L[k])]) ∧ Lc w' v' (Cn.writeC c L[k] ⟨#[119]⟩) ∧ Below W.heap.size W w') := Lib.hid (fun W v h => KC.writeL h (by omega) _ _ hi6.1 hi6.2)
                    have HWy : Hid (∀ W v, Lc W v yc → Calls Try.prog 22 #[v, .int .i64 L[k], .string ⟨#[119]⟩] W fun e w' => ∃ v', e = .returned (.tuple #[v', .int .i64 (Cn.writeE yc L[k])]) ∧ Lc w' v' (Cn.writeC yc L[k] ⟨#[119]⟩) ∧ Below W.heap.size W w') := Lib.hid (fun W v h => KC.writeL h (by have := HYl.out; omega) _ _ hi6.1 hi6.2)
                    clear hi6
                    generalize L[k] = ts at *
                    by_cases h1 : ts < 1
                    · have d1 : decide (ts < 1) = true := decide_eq_true h1
                      clear HS1 HLk HRx0 HRy0 HWx HWy
                      go_wp2
                      go_roundw
                      case rel => exact ⟨k + 1, by omega, by go_num, HBr, HLr⟩
                      case measure => simp [intOf]; omega
                    · have d1 : decide (ts < 1) = false := decide_eq_false h1
                      by_cases h2 : Cn.look c ts < 0
                      · clear HS1 HRx0 HRy0 HWx HWy
                        generalize Cn.look c ts = lk at *
                        have d2 : decide (lk < 0) = true := decide_eq_true h2
                        go_wp2_with (go_at_call 20; with_reducible refine (HLk.out _ _ ((HLr.out.1))).mono ?_; rintro e w21 ⟨rfl, b21⟩; have HL21 := Lib.hid (And.intro ((HLr.out.1).below b21) (And.intro ((HLr.out.2.1).below b21) ((HLr.out.2.2).below b21))); have HB21 := Lib.hid (below_two HBr.out b21); clear b21)
                        go_roundw
                        case rel => exact ⟨k + 1, by omega, by go_num, HB21, HL21⟩
                        case measure => simp [intOf]; omega
                      · obtain ⟨rt, rr, hrb, hwe⟩ := HS1.out (by omega) h2
                        have HRx : Hid (∀ W v, Lc W v c → Calls Try.prog 21 #[v, .int .i64 ts] W fun e w' => ∃ v', e = .returned (.tuple #[v', .agg #[.int .i64 (Cn.readV c ts).ts, .int .i64 (Cn.readV c ts).rd, .string (Cn.readV c ts).val, .bool (Cn.readV c ts).done]]) ∧ Lc w' v' (Cn.readC c ts) ∧ Below W.heap.size W w') := HRx0
                        have HRy : Hid (∀ W v, Lc W v yc → Calls Try.prog 21 #[v, .int .i64 ts] W fun e w' => ∃ v', e = .returned (.tuple #[v', .agg #[.int .i64 rt, .int .i64 rr, .string (Cn.readV c ts).val, .bool (Cn.readV c ts).done]]) ∧ Lc w' v' (Cn.readC yc ts) ∧ Below W.heap.size W w') := Lib.hid (fun W v h => by
                          have := HRy0.out W v h
                          rw [hrb] at this
                          exact this)
                        rw [hwe] at HWy
                        clear HS1 HRx0 HRy0 hrb hwe
                        generalize Cn.readV c ts = ra at *
                        generalize Cn.writeE c ts = we at *
                        generalize Cn.look c ts = lk at *
                        have d2 : decide (lk < 0) = false := decide_eq_false h2
                        go_wp2_with (first
                          | (go_at_call 20; with_reducible refine (HLk.out _ _ ((HLr.out.1))).mono ?_; rintro e w21 ⟨rfl, b21⟩; have HL21 := Lib.hid (And.intro ((HLr.out.1).below b21) (And.intro ((HLr.out.2.1).below b21) ((HLr.out.2.2).below b21))); have HB21 := Lib.hid (below_two HBr.out b21); have xi := HXi.out _ (HL21.out.2.2); clear b21)
                          | (go_at_call 21; with_reducible refine (HRx.out _ _ ((HL21.out.1))).mono ?_; rintro e w22 ⟨v22, rfl, h22, b22⟩; have BA := Lib.hid (Bk.new w22 [.int .i64 ra.ts, .int .i64 ra.rd, .string ra.val, .bool ra.done] 40 rfl); have b22 := b22.alloc b22.size (.cells #[.int .i64 ra.ts, .int .i64 ra.rd, .string ra.val, .bool ra.done] 40); have HL22 := Lib.hid (And.intro ((HL21.out.1).below b22) (And.intro ((HL21.out.2.1).below b22) ((HL21.out.2.2).below b22))); have HB22 := Lib.hid (below_two HB21.out b22); have xi := HXi.out _ (HL22.out.2.2); clear b22 h22 HRx)
                          | (go_at_call 21; with_reducible refine (HRy.out _ _ ((HL22.out.2.1))).mono ?_; rintro e w23 ⟨v23, rfl, h23, b23⟩; have BB := Lib.hid (Bk.new w23 [.int .i64 rt, .int .i64 rr, .string ra.val, .bool ra.done] 40 rfl); have b23 := b23.alloc b23.size (.cells #[.int .i64 rt, .int .i64 rr, .string ra.val, .bool ra.done] 40); have BA := Lib.hid (BA.out.step b23); have HL23 := Lib.hid (And.intro ((HL22.out.1).below b23) (And.intro ((HL22.out.2.1).below b23) ((HL22.out.2.2).below b23))); have HB23 := Lib.hid (below_two HB22.out b23); have xi := HXi.out _ (HL23.out.2.2); clear b23 h23 HRy)
                          | (go_at_call 22; with_reducible refine (HWx.out _ _ ((HL23.out.1))).mono ?_; rintro e w24 ⟨v24, rfl, h24, b24⟩; have BA := Lib.hid (BA.out.step b24); have BB := Lib.hid (BB.out.step b24); have HL24 := Lib.hid (And.intro ((HL23.out.1).below b24) (And.intro ((HL23.out.2.1).below b24) ((HL23.out.2.2).below b24))); have HB24 := Lib.hid (below_two HB23.out b24); have xi := HXi.out _ (HL24.out.2.2); clear b24 h24 HWx)
                          | (go_at_call 22; with_reducible refine (HWy.out _ _ ((HL24.out.2.1))).mono ?_; rintro e w25 ⟨v25, rfl, h25, b25⟩; have BA := Lib.hid (BA.out.step b25); have BB := Lib.hid (BB.out.step b25); have HL25 := Lib.hid (And.intro ((HL24.out.1).below b25) (And.intro ((HL24.out.2.1).below b25) ((HL24.out.2.2).below b25))); have HB25 := Lib.hid (below_two HB24.out b25); have p2 := BA.out.cell 2 _ rfl; have p3 := BA.out.cell 3 _ rfl; have q2 := BB.out.cell 2 _ rfl; have q3 := BB.out.cell 3 _ rfl; clear b25 h25 HWy))
                        go_roundw
                        case rel => exact ⟨k + 1, by omega, by go_num, HB25, HL25⟩
                        case measure => simp [intOf]; omega
                  · obtain rfl : k = L.length := by omega
                    have hlt' : ¬ (L.length : Int) < (L.length : Int) := by omega
                    have HMy : Hid (∀ W v, Lc W v yc → Calls Try.prog 23 #[v] W fun e w' => e = .returned (.bool (Cn.mayB yc)) ∧ Below W.heap.size W w') := Lib.hid (fun W v h => KC.mayL h (by have := HYl.out; omega))
                    rw [HYm.out] at HMy
                    go_wp2_with (go_at_call 23; refine (HMy.out _ _ HLr.out.2.1).mono ?_; rintro e w30 ⟨rfl, b30⟩; have HB30 := Lib.hid (below_two HBr.out b30); clear b30)
                    go_ret
                    exact ⟨rfl, HB30.out⟩
end
end Go.Proofs.Ytmlocdfjjgbnjaa
