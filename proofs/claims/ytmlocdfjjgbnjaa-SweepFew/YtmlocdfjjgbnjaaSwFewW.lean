/-
  Walks of layer sweep's laws: SweepFew.
-/
import Derived.Test.YtmlocdfjjgbnjaaSwNeedsW
namespace Go.Proofs.Ytmlocdfjjgbnjaa
open Go.RowKit

theorem opens_snoc (c : Cn.Ch) {k : Nat} (hk : k < c.length) : Sw.opens (c.take (k + 1)) = if c[k].done = true then Sw.opens (c.take k) else Sw.opens (c.take k) + 1 := by
  unfold Sw.opens
  rw [List.take_succ_eq_append_getElem hk, List.filter_append, List.length_append]
  cases h : c[k].done <;> simp [h]

section
variable {H : World → (Nat → Prop) → Value → Cl.Cs → Prop}
set_option maxRecDepth 100000 in
set_option maxHeartbeats 8000000 in
theorem SweepFew_walk (K : SweepOk H) (w : World) (v va : Value) (c : Cn.Ch) (act : List Int) (hS : Lc w v c) (hR : RngC c) (hA : Ln w va act) (hRA : RngN act) :
    Calls Try.prog 5 #[v, va] w fun e w' => e = .returned (.bool true) ∧ Below w.heap.size w w' := by
  have HS := Lib.hid hS
  have HA := Lib.hid hA
  have HR := Lib.hid hR
  have HRA := Lib.hid hRA
  have HK := Lib.hid K
  obtain ⟨A, cap, rfl, hcap⟩ := hS.form
  obtain ⟨B, capb, rfl, hcapb⟩ := hA.form
  clear hS hA hR hRA
  have HAw := Lib.hid (awake13_any K w)
  rcases big_cases c act with (b1 | ⟨b1, b2⟩) | ⟨b1, b2, l1, l2⟩
  · go_enter Try.func5, Try.ntmps5
    go_wp2_with (go_at_call 9; refine HAw.out.mono ?_; rintro e w0 ⟨rfl, b0⟩)
    go_ret
    exact ⟨rfl, b0⟩
  · go_enter Try.func5, Try.ntmps5
    go_wp2_with (go_at_call 9; refine HAw.out.mono ?_; rintro e w0 ⟨rfl, b0⟩)
    go_ret
    exact ⟨rfl, b0⟩
  · have HFew := Lib.hid (Sw.few_pruned c act)
    have HOl : Hid (Sw.opens c ≤ c.length) := Lib.hid (List.length_filter_le ..)
    go_enter Try.func5, Try.ntmps5
    go_wp2_with (first
      | (go_at_call 9; refine HAw.out.mono ?_; rintro e w0 ⟨rfl, b0⟩; have HB0 := Lib.hid b0; have HL0 := Lib.hid (And.intro (HS.out.below b0) (HA.out.below b0)); clear b0 HAw))
    go_loopw [7, 8] (fun ov iv wr => ∃ k o : Nat, k ≤ c.length ∧ o ≤ k ∧ ov = .int .i64 (o : Int) ∧ iv = .int .i64 (k : Int) ∧ Hid (Sw.opens (c.take k) = o) ∧ Hid (wr = w0)) (fun _ iv _ => c.length - (intOf iv).toNat)
    case atStart => exact ⟨0, 0, Nat.zero_le _, Nat.le_refl _, rfl, rfl, Lib.hid rfl, Lib.hid rfl⟩
    case round =>
      obtain ⟨k, o, hk, ho, rfl, rfl, HO, HW⟩ := hrel
      obtain rfl := HW.out
      by_cases hlt : k < c.length
      · have hlt' : (k : Int) < (c.length : Int) := by omega
        have hk0 : (0 : Int) ≤ (k : Int) := by omega
        obtain ⟨a, _, ea, _, _, _, _, _, x3⟩ := HL0.out.1.nth k hlt
        cases ea
        have HN := Lib.hid (opens_snoc c hlt)
        cases hd : c[k].done with
        | true =>
          rw [hd] at x3
          have HN2 : Hid (Sw.opens (c.take (k + 1)) = o) := Lib.hid (by rw [HN.out, if_pos hd, HO.out])
          clear hd HN
          go_wp2
          go_roundw
          case rel => exact ⟨k + 1, o, by omega, by omega, rfl, by go_num, HN2, Lib.hid trivial⟩
          case measure => simp [intOf]; omega
        | false =>
          rw [hd] at x3
          have HN2 : Hid (Sw.opens (c.take (k + 1)) = o + 1) := Lib.hid (by rw [HN.out, if_neg (by rw [hd]; simp), HO.out])
          clear hd HN
          go_wp2
          go_roundw
          case rel => exact ⟨k + 1, o + 1, by omega, by omega, by go_num, by go_num, HN2, Lib.hid trivial⟩
          case measure => simp [intOf]; omega
      · obtain rfl : k = c.length := by omega
        have hlt' : ¬ (c.length : Int) < (c.length : Int) := by omega
        have HO2 : Hid (Sw.opens c = o) := Lib.hid (by have := HO.out; rw [List.take_length] at this; exact this)
        have hfew := HFew.out
        rw [HO2.out] at hfew
        clear HO HFew HOl
        obtain ⟨n, hn⟩ : ∃ n, n = (Sw.pruneC c act).length := ⟨_, rfl⟩
        rw [← hn] at hfew
        have HNn := Lib.hid hn
        clear hn
        have t1 : (n : Int) ≤ 1 + (act.length : Int) + 2 * (o : Int) := by omega
        have t1' : decide ((n : Int) ≤ 1 + (act.length : Int) + 2 * (o : Int)) = true := decide_eq_true t1
        by_cases hom : o > act.length
        · have t2 : decide ((o : Int) > (act.length : Int)) = true := decide_eq_true (by omega)
          go_wp2_with (first
            | (go_at_call 10; refine (made13L (HL0.out.1) (by omega)).mono ?_; rintro e w1 ⟨v1, rfl, h1, hb1⟩; have H1 := Lib.hid h1; have HA1 := Lib.hid (HL0.out.2.below hb1); have HB1 := Lib.hid (below_two HB0.out hb1); clear h1 hb1)
            | (go_at_call 16; refine (HK.out.pruneL H1.out (by omega) HR.out HA1.out (by omega) HRA.out).mono ?_; rintro e w2 ⟨v2, rfl, h2, hb2⟩; obtain ⟨A2, c2, rfl, _⟩ := h2.form; rw [← HNn.out]; have HB2 := Lib.hid (below_two HB1.out hb2); clear h2 hb2))
          go_ret
          exact ⟨rfl, HB2.out⟩
        · have t2 : decide ((o : Int) > (act.length : Int)) = false := decide_eq_false (by omega)
          have t3 : (n : Int) ≤ 1 + 2 * (act.length : Int) + (o : Int) := by omega
          have t3' : decide ((n : Int) ≤ 1 + 2 * (act.length : Int) + (o : Int)) = true := decide_eq_true t3
          go_wp2_with (first
            | (go_at_call 10; refine (made13L (HL0.out.1) (by omega)).mono ?_; rintro e w1 ⟨v1, rfl, h1, hb1⟩; have H1 := Lib.hid h1; have HA1 := Lib.hid (HL0.out.2.below hb1); have HB1 := Lib.hid (below_two HB0.out hb1); clear h1 hb1)
            | (go_at_call 16; refine (HK.out.pruneL H1.out (by omega) HR.out HA1.out (by omega) HRA.out).mono ?_; rintro e w2 ⟨v2, rfl, h2, hb2⟩; obtain ⟨A2, c2, rfl, _⟩ := h2.form; rw [← HNn.out]; have HB2 := Lib.hid (below_two HB1.out hb2); clear h2 hb2))
          go_ret
          exact ⟨rfl, HB2.out⟩
end
end Go.Proofs.Ytmlocdfjjgbnjaa
