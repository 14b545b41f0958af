/-
  Walks of layer slot's laws: SlotTurns.
-/
import Derived.Test.YtbjbnjpdackloaaSoRow
namespace Go.Proofs.Ytbjbnjpdackloaa
open Go.RowKit

section
variable {H : World → (Nat → Prop) → Value → D.Dk → Prop}



set_option maxRecDepth 100000 in
set_option maxHeartbeats 4000000 in
theorem SlotTurns_walk (K : DiskOk H) (KF : FrameOk) (w : World) (gen : Nat) (hgen : gen < 4294967296) (vb vc : Value) (b c : List UInt8) (Gb : Nat → Prop) (hB : SlB w Gb vb b) (hC : SlB w Gb vc c) (hG : ∀ x, Gb x → x < w.heap.size) (hbl : b.length ≤ 9223372036854775807) (hcl : c.length ≤ 9223372036854775807) :
    Calls Try.prog 8 #[.int .u32 (gen : Int), vb, vc] w fun e w' => e = .returned (.bool true) ∧ Below w.heap.size w w' := by
  have HB := Lib.hid hB
  have HC := Lib.hid hC
  obtain ⟨Ab, capb, rfl, hcb⟩ := Sg_form hB
  obtain ⟨Ac, capc, rfl, hcc⟩ := Sg_form hC
  clear hB hC
  have HA := Lib.hid (awake8_any K KF w)
  go_enter Try.func8, Try.ntmps8
  go_wp2_with fail
  refine HA.out.mono ?_
  rintro e w1 ⟨rfl, hb1⟩
  have HN := Lib.hid (K.new 12 w1 (by decide) (by decide))
  clear HA
  go_wp2_with fail
  refine HN.out.mono ?_
  rintro e w2 ⟨vd, rfl, hH2, hb2⟩
  obtain ⟨da, rfl⟩ := K.ptr hH2
  have HH2 : Hid (H w2 (S.New w1 w2) (.pointer (some da)) newD8) := Lib.hid hH2
  have hs1 := hb1.size
  have hbw2 := below_two hb1 hb2
  have hF2 : ∀ b, S.New w1 w2 b → w.heap.size ≤ b := fun b g => Nat.le_trans hs1 g.1
  generalize S.New w1 w2 = F2 at *
  clear HN hH2 hb1 hb2
  by_cases h200 : 200 < b.length
  · have h200' : (200 : Int) < (b.length : Int) := by omega
    go_wp2
    go_ret
    exact ⟨rfl, hbw2⟩
  have h200' : ¬ (200 : Int) < (b.length : Int) := by omega
  by_cases k200 : 200 < c.length
  · have k200' : (200 : Int) < (c.length : Int) := by omega
    go_wp2
    go_ret
    exact ⟨rfl, hbw2⟩
  have k200' : ¬ (200 : Int) < (c.length : Int) := by omega
  obtain ⟨n, hn⟩ : ∃ n, n = 1 + gen % 1073741824 := ⟨_, rfl⟩
  have q1 : (gen : Int).tmod 1073741824 = (n : Int) - 1 := by rw [Int.tmod_eq_emod_of_nonneg (by omega)]; omega
  have q2 : (gen : Int) % 1073741824 = (n : Int) - 1 := by omega
  have hn1 : 1 ≤ n := by omega
  have hn2 : n ≤ 1073741824 := by omega
  have q3 : (1 : Int) + ((n : Int) - 1) = (n : Int) := by omega
  clear hn
  have HA2 := Lib.hid (area_any w2)
  go_wp2_with fail
  refine HA2.out.mono ?_
  rintro e w3 ⟨rfl, hb3⟩
  have hbw3 := below_two hbw2 hb3
  clear HA2
  have HS := Lib.hid (sv8 K KF (gen := n) (K.below HH2.out hb3) new8_len (by decide) (HB.out.below hbw3 hG) (fun x g => Nat.lt_of_lt_of_le (hG x g) hbw3.size) (by omega) hn1 (by omega) 0 (Z.save newD8 1 4 n b) (by rw [if_pos (many200 (by omega))]) (by rw [if_pos (many200 (by omega))]))
  clear HH2
  go_wp2_with fail
  refine HS.out.mono ?_
  rintro e w4 ⟨rfl, ⟨F4, hH4, hF4'⟩, ht4⟩
  have hbw4 := hbw3.trans (ht4.below hbw3.size hF2)
  have hF4 : ∀ x, F4 x → w.heap.size ≤ x := fun x g => (hF4' x g).elim (hF2 x) (fun g => Nat.le_trans hbw3.size g.1)
  have HH4 := Lib.hid hH4
  clear HS hH4 ht4 hF4' hb3
  have HA4 := Lib.hid (area_any w4)
  go_wp2_with fail
  refine HA4.out.mono ?_
  rintro e w5 ⟨rfl, hb5⟩
  have hbw5 := below_two hbw4 hb5
  clear HA4
  have hrow : (Z.save newD8 1 4 n b).row.length ≤ 900 := by
    have := Z.save_row (d := newD8) (first := 1) (size := 4) (gen := n) (b := b) (may8 new8_len)
    have := many200 (n := b.length) (by omega)
    have e0 : newD8.row.length = 0 := rfl
    omega
  have h12 : (Z.save newD8 1 4 n b).secs.length = 12 := (Z.save_len ..).trans new8_len
  have HD := Lib.hid (rfl : Z.save newD8 1 4 n b = Z.save newD8 1 4 n b)
  have hS2 := sv8 K KF (gen := n + 1) (K.below HH4.out hb5) h12 hrow (HC.out.below hbw5 hG) (fun x g => Nat.lt_of_lt_of_le (hG x g) hbw5.size) (by omega) (by omega) (by omega) 0 (Z.save (Z.save newD8 1 4 n b) 1 4 (n + 1) c) (by rw [if_pos (many200 (by omega))]) (by rw [if_pos (many200 (by omega))])
  rw [show ((n + 1 : Nat) : Int) = (n : Int) + 1 by omega] at hS2
  have HS := Lib.hid hS2
  clear HH4 hS2
  go_wp2_with fail
  refine HS.out.mono ?_
  rintro e w6 ⟨rfl, ⟨F6, hH6, hF6'⟩, ht6⟩
  have hbw6 := hbw5.trans (ht6.below hbw5.size hF4)
  have h12' : (Z.save (Z.save newD8 1 4 n b) 1 4 (n + 1) c).secs.length = 12 := (Z.save_len ..).trans h12
  have o1 : Z.one (Z.save (Z.save newD8 1 4 n b) 1 4 (n + 1) c) 1 4 (n % 2) = some (n, b) := by
    rw [Z.one_other (may8 h12) (Nat.mod_lt _ (by decide)) (by omega)]
    exact Z.one_saved (may8 new8_len) (many200 (by omega)) hn1 (by omega)
  have o2 : Z.one (Z.save (Z.save newD8 1 4 n b) 1 4 (n + 1) c) 1 4 ((n + 1) % 2) = some (n + 1, c) := Z.one_saved (may8 h12) (many200 (by omega)) (by omega) (by omega)
  generalize Z.save (Z.save newD8 1 4 n b) 1 4 (n + 1) c = d6 at *
  have HH6 := Lib.hid hH6
  obtain ⟨r, hr⟩ : ∃ r, r = n % 2 := ⟨_, rfl⟩
  obtain ⟨r', hr'⟩ : ∃ r', r' = (n + 1) % 2 := ⟨_, rfl⟩
  rw [← hr] at o1
  rw [← hr'] at o2
  have m1 : (n : Int).tmod 2 = (r : Int) := by rw [Int.tmod_eq_emod_of_nonneg (by omega)]; omega
  have m2 : (n : Int) % 2 = (r : Int) := by omega
  have m3 : ((n : Int) + 1).tmod 2 = (r' : Int) := by rw [Int.tmod_eq_emod_of_nonneg (by omega)]; omega
  have m4 : ((n : Int) + 1) % 2 = (r' : Int) := by omega
  have hr2 : r < 2 := by omega
  have hr2' : r' < 2 := by omega
  have HO2 := Lib.hid o2
  have HO1 := Lib.hid o1
  clear HS hH6 ht6 hF6' hb5 hr hr' o1 o2
  have HA6 := Lib.hid (area_any w6)
  go_wp2_with fail
  refine HA6.out.mono ?_
  rintro e w7 ⟨rfl, hb7⟩
  have hbw7 := below_two hbw6 hb7
  clear HA6
  have HO := Lib.hid (on8 K KF (K.below HH6.out hb7) h12' r hr2 _ HO1.out)
  go_wp2_with fail
  refine HO.out.mono ?_
  rintro e w8 ⟨v8, rfl, hB8, hb8⟩
  have hbw8 := below_two hbw7 hb8
  have HH8 := Lib.hid (K.below (K.below HH6.out hb7) hb8)
  have hB8 : SlB w8 (S.New w7 w8) v8 b := hB8
  have HB8 := Lib.hid hB8
  obtain ⟨A8, cap8, rfl, hc8⟩ := Sg_form hB8
  clear HO hB8 hb7 HH6
  rw [show oG (some (n, b)) = n from rfl, show (some (n, b)).isSome = true from rfl]
  have HA8 := Lib.hid (area_any w8)
  go_wp2_with fail
  refine HA8.out.mono ?_
  rintro e w9 ⟨rfl, hb9⟩
  have hbw9 := below_two hbw8 hb9
  clear HA8
  have HO := Lib.hid (on8 K KF (K.below HH8.out hb9) h12' r' hr2' _ HO2.out)
  go_wp2_with fail
  refine HO.out.mono ?_
  rintro e wa ⟨va, rfl, hBa, hba⟩
  have hbwa := below_two hbw9 hba
  have hBa : SlB wa (S.New w9 wa) va c := hBa
  have k1 := conv_sg ((HB8.out.below hb9 (fun x g => g.2)).below hba (fun x g => by have := g.2; have := hb9.size; omega))
  have k2 := conv_sg hBa
  have k3 := conv_sg (HB.out.below hbwa hG)
  have k4 := conv_sg (HC.out.below hbwa hG)
  obtain ⟨Aa, capa, rfl, hca⟩ := Sg_form hBa
  clear HO hBa HB8 HH8
  rw [show ((oG (some (n + 1, c)) : Nat) : Int) = (n : Int) + 1 by show ((n + 1 : Nat) : Int) = _; omega, show (some (n + 1, c)).isSome = true from rfl]
  go_wp2
  go_ret
  exact ⟨rfl, hbwa⟩
end

end Go.Proofs.Ytbjbnjpdackloaa
