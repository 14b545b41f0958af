/-
  Walks of layer sweep's laws: SweepNeeds.
-/
import Derived.Test.YtmlocdfjjgbnjaaSwLaw2
namespace Go.Proofs.Ytmlocdfjjgbnjaa
open Go.RowKit

/-- more than the law looks at -/
def Big (c : Cn.Ch) (act : List Int) : Prop := c.length > 60 ∨ act.length > 20
theorem big_cases (c : Cn.Ch) (act : List Int) : (decide ((c.length : Int) > 60) = true ∨ (decide ((c.length : Int) > 60) = false ∧ decide ((act.length : Int) > 20) = true)) ∨ (decide ((c.length : Int) > 60) = false ∧ decide ((act.length : Int) > 20) = false ∧ c.length ≤ 60 ∧ act.length ≤ 20) := by
  by_cases h : c.length > 60
  · exact Or.inl (Or.inl (decide_eq_true (by omega)))
  · by_cases h2 : act.length > 20
    · exact Or.inl (Or.inr ⟨decide_eq_false (by omega), decide_eq_true (by omega)⟩)
    · exact Or.inr ⟨decide_eq_false (by omega), decide_eq_false (by omega), by omega, by omega⟩

section
variable {H : World → (Nat → Prop) → Value → Cl.Cs → Prop}
set_option maxRecDepth 100000 in
set_option maxHeartbeats 8000000 in
theorem SweepNeeds_walk (K : SweepOk H) (w : World) (v va : Value) (c : Cn.Ch) (act : List Int) (hS : Lc w v c) (hR : RngC c) (hA : Ln w va act) (hRA : RngN act) :
    Calls Try.prog 3 #[v, va] w fun e w' => e = .returned (.bool true) ∧ Below w.heap.size w w' := by
  have HS := Lib.hid hS
  have HA := Lib.hid hA
  have HR := Lib.hid hR
  have HRA := Lib.hid hRA
  have HK := Lib.hid K
  obtain ⟨A, cap, rfl, hcap⟩ := hS.form
  obtain ⟨B, capb, rfl, hcapb⟩ := hA.form
  clear hS hA hR hRA
  have HAw := Lib.hid (awake13_any K w)
  rcases big_cases c act with (b1 | ⟨b1, b2⟩) | ⟨b1, b2, l1, l2⟩
  · go_enter Try.func3, Try.ntmps3
    go_wp2_with (go_at_call 9; refine HAw.out.mono ?_; rintro e w0 ⟨rfl, b0⟩)
    go_ret
    exact ⟨rfl, b0⟩
  · go_enter Try.func3, Try.ntmps3
    go_wp2_with (go_at_call 9; refine HAw.out.mono ?_; rintro e w0 ⟨rfl, b0⟩)
    go_ret
    exact ⟨rfl, b0⟩
  · have HPL : Hid ((Sw.pruneC c act).length ≤ 1000) := Lib.hid (by have := (Sw.prune_sub (c := c) (act := act)).length_le; omega)
    go_enter Try.func3, Try.ntmps3
    go_wp2_with (first
      | (go_at_call 9; refine HAw.out.mono ?_; rintro e w0 ⟨rfl, b0⟩; have HB0 := Lib.hid b0; have HL0 := Lib.hid (And.intro (HS.out.below b0) (HA.out.below b0)); clear b0 HAw)
      | (go_at_call 10; with_reducible refine (made13L ((HL0.out.1)) (by omega)).mono ?_; rintro e w1 ⟨v1, rfl, h1, b1⟩; have HL1 := Lib.hid (And.intro ((HL0.out.1).below b1) (And.intro ((HL0.out.2).below b1) (h1))); have HB1 := Lib.hid (below_two HB0.out b1); clear b1 h1)
      | (go_at_call 12; with_reducible refine (HK.out.neededL ((HL1.out.2.2)) (by omega) HR.out ((HL1.out.2.1)) (by omega) HRA.out).mono ?_; rintro e w2 ⟨v2, rfl, h2, b2⟩; have HL2 := Lib.hid (And.intro ((HL1.out.1).below b2) (And.intro ((HL1.out.2.1).below b2) (And.intro ((HL1.out.2.2).below b2) (h2)))); have HB2 := Lib.hid (below_two HB1.out b2); clear b2 h2)
      | (go_at_call 13; with_reducible refine (rneeded13L ((HL2.out.1)) (by omega) ((HL2.out.2.1)) (by omega)).mono ?_; rintro e w3 ⟨v3, rfl, h3, b3⟩; have HL3 := Lib.hid (And.intro ((HL2.out.1).below b3) (And.intro ((HL2.out.2.1).below b3) (And.intro ((HL2.out.2.2.1).below b3) (And.intro ((HL2.out.2.2.2).below b3) (h3))))); have HB3 := Lib.hid (below_two HB2.out b3); clear b3 h3)
      | (go_at_call 11; with_reducible refine (rbools13L ((HL3.out.2.2.2.1)) ((HL3.out.2.2.2.2)) (by rw [needs_len]; omega)).mono ?_; rintro e w4 ⟨rfl, b4⟩; have HL4 := Lib.hid (And.intro ((HL3.out.1).below b4) (And.intro ((HL3.out.2.1).below b4) (And.intro ((HL3.out.2.2.1).below b4) (And.intro ((HL3.out.2.2.2.1).below b4) ((HL3.out.2.2.2.2).below b4))))); have HB4 := Lib.hid (below_two HB3.out b4); clear b4)
      | (go_at_call 16; with_reducible refine (HK.out.pruneL ((HL4.out.2.2.1)) (by omega) HR.out ((HL4.out.2.1)) (by omega) HRA.out).mono ?_; rintro e w5 ⟨v4, rfl, h4, b5⟩; have HL5 := Lib.hid (And.intro ((HL4.out.1).below b5) (And.intro ((HL4.out.2.1).below b5) (And.intro ((HL4.out.2.2.1).below b5) (And.intro ((HL4.out.2.2.2.1).below b5) (And.intro ((HL4.out.2.2.2.2).below b5) (h4)))))); have HB5 := Lib.hid (below_two HB4.out b5); clear b5 h4)
      | (go_at_call 15; with_reducible refine (real13L ((HL5.out.2.2.2.2.2)) HPL.out).mono ?_; rintro e w6 ⟨v5, rfl, h5, b6⟩; have HL6 := Lib.hid (And.intro ((HL5.out.1).below b6) (And.intro ((HL5.out.2.1).below b6) (And.intro ((HL5.out.2.2.1).below b6) (And.intro ((HL5.out.2.2.2.1).below b6) (And.intro ((HL5.out.2.2.2.2.1).below b6) (And.intro ((HL5.out.2.2.2.2.2).below b6) (h5))))))); have HB6 := Lib.hid (below_two HB5.out b6); clear b6 h5)
      | (go_at_call 17; with_reducible refine (rprune13L ((HL6.out.1)) (by omega) ((HL6.out.2.1)) (by omega)).mono ?_; rintro e w7 ⟨v6, rfl, h6, b7⟩; have HL7 := Lib.hid (And.intro ((HL6.out.1).below b7) (And.intro ((HL6.out.2.1).below b7) (And.intro ((HL6.out.2.2.1).below b7) (And.intro ((HL6.out.2.2.2.1).below b7) (And.intro ((HL6.out.2.2.2.2.1).below b7) (And.intro ((HL6.out.2.2.2.2.2.1).below b7) (And.intro ((HL6.out.2.2.2.2.2.2).below b7) (h6)))))))); have HB7 := Lib.hid (below_two HB6.out b7); clear b7 h6)
      | (go_at_call 14; with_reducible refine (same13L ((HL7.out.2.2.2.2.2.2.1)) ((HL7.out.2.2.2.2.2.2.2)) HPL.out).mono ?_; rintro e w8 ⟨rfl, b8⟩; have HL8 := Lib.hid (And.intro ((HL7.out.1).below b8) (And.intro ((HL7.out.2.1).below b8) (And.intro ((HL7.out.2.2.1).below b8) (And.intro ((HL7.out.2.2.2.1).below b8) (And.intro ((HL7.out.2.2.2.2.1).below b8) (And.intro ((HL7.out.2.2.2.2.2.1).below b8) (And.intro ((HL7.out.2.2.2.2.2.2.1).below b8) ((HL7.out.2.2.2.2.2.2.2).below b8)))))))); have HB8 := Lib.hid (below_two HB7.out b8); clear b8)
      | (go_at_call 15; with_reducible refine (real13L ((HL8.out.2.2.1)) (by omega)).mono ?_; rintro e w9 ⟨v7, rfl, h7, b9⟩; have HL9 := Lib.hid (And.intro ((HL8.out.1).below b9) (And.intro ((HL8.out.2.1).below b9) (And.intro ((HL8.out.2.2.1).below b9) (And.intro ((HL8.out.2.2.2.1).below b9) (And.intro ((HL8.out.2.2.2.2.1).below b9) (And.intro ((HL8.out.2.2.2.2.2.1).below b9) (And.intro ((HL8.out.2.2.2.2.2.2.1).below b9) (And.intro ((HL8.out.2.2.2.2.2.2.2).below b9) (h7))))))))); have HB9 := Lib.hid (below_two HB8.out b9); clear b9 h7)
      | (go_at_call 14; with_reducible refine (same13L ((HL9.out.2.2.2.2.2.2.2.2)) ((HL9.out.1)) (by omega)).mono ?_; rintro e w10 ⟨rfl, b10⟩; have HL10 := Lib.hid (And.intro ((HL9.out.1).below b10) (And.intro ((HL9.out.2.1).below b10) (And.intro ((HL9.out.2.2.1).below b10) (And.intro ((HL9.out.2.2.2.1).below b10) (And.intro ((HL9.out.2.2.2.2.1).below b10) (And.intro ((HL9.out.2.2.2.2.2.1).below b10) (And.intro ((HL9.out.2.2.2.2.2.2.1).below b10) (And.intro ((HL9.out.2.2.2.2.2.2.2.1).below b10) ((HL9.out.2.2.2.2.2.2.2.2).below b10))))))))); have HB10 := Lib.hid (below_two HB9.out b10); clear b10))
    go_ret
    exact ⟨rfl, HB10.out⟩
end
end Go.Proofs.Ytmlocdfjjgbnjaa
