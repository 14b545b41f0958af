/-
  The law FrameWhole, walked: what is cut is whole.
-/
import Derived.Test.YtgfnjineojihjaaFrCutsW
namespace Go.Proofs.Ytgfnjineojihjaa
open Go.RowKit

def bodies (e s : Nat) (l : List UInt8) (k : Nat) : List UInt8 := (((R.cut e s l).take k).map (·.body)).flatten

theorem bodies_succ (e s : Nat) (l : List UInt8) (k : Nat) (h : k < (R.cut e s l).length) : bodies e s l (k + 1) = bodies e s l k ++ (R.cut e s l)[k].body := by
  unfold bodies
  rw [← List.take_append_getElem h, List.map_append, List.flatten_append]
  simp
theorem bodies_all (e s : Nat) (l : List UInt8) : bodies e s l (R.cut e s l).length = l := by
  unfold bodies
  rw [List.take_length, R.cut_whole]

theorem flag_0 {i m : Nat} (h0 : i = 0) (h1 : i + 1 = m) : (R.flagOf i m).toNat = 3 := by simp [R.flagOf, h0, ← h1]
theorem flag_1 {i m : Nat} (h0 : i = 0) (h1 : ¬ i + 1 = m) : (R.flagOf i m).toNat = 1 := by rw [R.flagOf, if_pos h0, if_neg h1]; rfl
theorem flag_2 {i m : Nat} (h0 : ¬ i = 0) (h1 : i + 1 = m) : (R.flagOf i m).toNat = 2 := by simp [R.flagOf, h0, h1]
theorem flag_3 {i m : Nat} (h0 : ¬ i = 0) (h1 : ¬ i + 1 = m) : (R.flagOf i m).toNat = 0 := by simp [R.flagOf, h0, h1]

set_option linter.unusedSimpArgs false in
set_option maxRecDepth 100000 in
set_option maxHeartbeats 2000000 in
theorem whole_any (K : FrameOk) {w : World} {G : Nat → Prop} {vb : Value} {l : List UInt8} (e s : Nat) (he : e < 4294967296) (hs : s < 4294967296) (hb : SlB w G vb l) (hG : ∀ b, G b → b < w.heap.size) :
    Calls Try.prog 7 #[.int .u32 e, .int .u32 s, vb] w fun r w' => r = .returned (.bool true) ∧ Below w.heap.size w w' := by
  have HB := Lib.hid hb
  obtain ⟨Ab, capb, rfl, hcb⟩ := slB_form hb
  have HA := Lib.hid (fawake_any K w)
  clear hb
  by_cases h2k : l.length ≤ 2000
  · have t1 : ¬ (2000 : Int) < (l.length : Int) := by omega
    go_enter Try.func7, Try.ntmps7
    go_wp2_with fail
    refine HA.out.mono ?_
    rintro r w1 ⟨rfl, hb1⟩
    have HC := Lib.hid (K.cut e s (HB.out.below hb1 hG) (fun b g => Nat.lt_of_lt_of_le (hG b g) hb1.size) he hs h2k)
    clear HA
    go_wp2_with fail
    refine HC.out.mono ?_
    rintro r w2 ⟨v2, rfl, hs2, hb2⟩
    have hb2' := below_two hb1 hb2
    have H2 := Lib.hid hs2
    obtain ⟨n, hn⟩ : ∃ n, n = (R.cut e s l).length := ⟨_, rfl⟩
    obtain ⟨A2, cap2, rfl, hc2⟩ : ∃ A cap, v2 = .slice A n cap ∧ n ≤ cap := by obtain ⟨A, cap, e, hc, _⟩ := hs2; rw [hn]; exact ⟨A, cap, e, hc⟩
    have HN := Lib.hid hn
    have hnm : n = R.many l.length := by rw [hn, R.cut_len]
    have HNM := Lib.hid hnm
    have hnl : 1 ≤ n ∧ n ≤ 2000 := by rw [hnm]; have := R.many_pos l.length; unfold R.many at this ⊢; split <;> omega
    have hcv := conv_sg (HB.out.below hb2' hG)
    clear HC hs2 hn hnm
    go_wp2_with fail
    go_loop [9, 10] (fun x i => ∃ k : Nat, k ≤ n ∧ i = .int .i64 k ∧ x = .string ⟨(bodies e s l k).toArray⟩ ∧ (bodies e s l k).length ≤ 50 * k) (fun _ i => n - (intOf i).toNat)
    case atStart => exact ⟨0, Nat.zero_le _, rfl, rfl, by simp [bodies]⟩
    case round =>
      obtain ⟨k, hk, rfl, rfl, hlen⟩ := hrel
      by_cases hlt : k < n
      · have hkc : k < (R.cut e s l).length := by rw [← HN.out]; exact hlt
        have hkm : k < R.many l.length := by rw [← HNM.out]; exact hlt
        obtain ⟨a, cap2', vb5, e5, _, hFa, x0, x1, x2, x3, hb5⟩ := H2.out.at k hkc
        rw [← HN.out] at e5
        cases e5
        have HU := Lib.hid (bodies_succ e s l k hkc)
        have hbl := R.cut_body_len (e := e) (s := s) hkm
        rw [← HNM.out] at hbl
        rw [R.cut_at] at x0 x1 x2 hb5 HU
        obtain ⟨bd, hbd⟩ : ∃ bd, bd = (R.frameOf e s l k).body := ⟨_, rfl⟩
        rw [← hbd] at hb5 hbl HU
        have H5 := conv_sg hb5
        obtain ⟨A5, cap5, rfl, hc5⟩ := slB_form hb5
        have X0 : w2.cell? (a.add (k * 4)) = some (.int .u32 (e : Int)) := x0
        obtain ⟨q, hq⟩ : ∃ q, q = (s + k) % 4294967296 := ⟨_, rfl⟩
        have X1 : w2.cell? ⟨(a.add (k * 4)).block, (a.add (k * 4)).off + 1, none⟩ = some (.int .u32 (q : Int)) := by rw [hq]; exact fr_cell_in (j := 0) x1
        obtain ⟨fl, hfl⟩ : ∃ fl, fl = (R.flagOf k (R.many l.length)).toNat := ⟨_, rfl⟩
        have X2 : w2.cell? ⟨(a.add (k * 4)).block, (a.add (k * 4)).off + 2, none⟩ = some (.int .u8 (fl : Int)) := by rw [hfl]; exact fr_cell_in (j := 1) x2
        have X3 := fr_cell_in (j := 2) x3
        rw [← HNM.out] at hfl
        have hq2 : ((s : Int) + (k : Int) % 4294967296) % 4294967296 = (q : Int) := by omega
        have hq3 : ((s : Int) + (k : Int)) % 4294967296 = (q : Int) := by omega
        have hk4 : (k : Int) % 4294967296 = (k : Int) := by omega
        have i0 : (0 : Int) ≤ (k : Int) := by omega
        have i1 : (k : Int) < (n : Int) := by omega
        obtain ⟨T, hT⟩ : ∃ T, T = bodies e s l k := ⟨_, rfl⟩
        rw [← hT] at hlen HU
        rw [← hT]
        have ha : ¬ 9223372036854775807 < T.length + bd.length := by
          split at hbl <;> omega
        have hb50 : bd.length ≤ 50 := by
          split at hbl
          · rename_i h; have := HNM.out; unfold R.many at this; split at this <;> omega
          · omega
        have hb50' : ¬ (50 : Int) < (bd.length : Int) := by omega
        have HE : Hid (bodies e s l (k + 1) = T ++ bd ∧ (bodies e s l (k + 1)).length ≤ 50 * (k + 1)) := Lib.hid ⟨HU.out, by rw [HU.out, List.length_append]; omega⟩
        clear x0 x1 x2 x3 hb5 hT hbd hq HU
        by_cases h0 : k = 0
        · by_cases h1 : k + 1 = n
          · obtain rfl : fl = 3 := by rw [hfl]; exact flag_0 h0 h1
            have a1 : bits .and .u8 3 1 = 1 := by decide
            have a2 : bits .and .u8 3 2 = 2 := by decide
            have hk0 : ((k : Int) == 0) = true := by rw [h0]; rfl
            have hl1 : ((k : Int) == (n : Int) - 1) = true := by rw [beq_iff_eq]; omega
            clear hbl hfl h0 h1
            go_wp2
            go_round
            case rel => exact ⟨k + 1, by omega, by go_num, by rw [ba_append, HE.out.1], HE.out.2⟩
            case measure => simp [intOf]; omega
          · obtain rfl : fl = 1 := by rw [hfl]; exact flag_1 h0 h1
            have a1 : bits .and .u8 1 1 = 1 := by decide
            have a2 : bits .and .u8 1 2 = 0 := by decide
            have hk0 : ((k : Int) == 0) = true := by rw [h0]; rfl
            have hl1 : ((k : Int) == (n : Int) - 1) = false := by rw [beq_eq_false_iff_ne]; omega
            have hbd50 : ((bd.length : Int) != 50) = false := by rw [hbl, if_neg h1]; rfl
            clear hbl hfl h0 h1
            go_wp2
            go_round
            case rel => exact ⟨k + 1, by omega, by go_num, by rw [ba_append, HE.out.1], HE.out.2⟩
            case measure => simp [intOf]; omega
        · by_cases h1 : k + 1 = n
          · obtain rfl : fl = 2 := by rw [hfl]; exact flag_2 h0 h1
            have a1 : bits .and .u8 2 1 = 0 := by decide
            have a2 : bits .and .u8 2 2 = 2 := by decide
            have hk0 : ((k : Int) == 0) = false := by rw [beq_eq_false_iff_ne]; omega
            have hl1 : ((k : Int) == (n : Int) - 1) = true := by rw [beq_iff_eq]; omega
            clear hbl hfl h0 h1
            go_wp2
            go_round
            case rel => exact ⟨k + 1, by omega, by go_num, by rw [ba_append, HE.out.1], HE.out.2⟩
            case measure => simp [intOf]; omega
          · obtain rfl : fl = 0 := by rw [hfl]; exact flag_3 h0 h1
            have a1 : bits .and .u8 0 1 = 0 := by decide
            have a2 : bits .and .u8 0 2 = 0 := by decide
            have hk0 : ((k : Int) == 0) = false := by rw [beq_eq_false_iff_ne]; omega
            have hl1 : ((k : Int) == (n : Int) - 1) = false := by rw [beq_eq_false_iff_ne]; omega
            have hbd50 : ((bd.length : Int) != 50) = false := by rw [hbl, if_neg h1]; rfl
            clear hbl hfl h0 h1
            go_wp2
            go_round
            case rel => exact ⟨k + 1, by omega, by go_num, by rw [ba_append, HE.out.1], HE.out.2⟩
            case measure => simp [intOf]; omega
      · obtain rfl : k = n := by omega
        have HZ : Hid (bodies e s l k = l) := Lib.hid (by rw [HN.out]; exact bodies_all e s l)
        rw [HZ.out]
        have i1 : ¬ (k : Int) < (k : Int) := by omega
        have hm : (k : Int) = max 1 (((l.length : Int) + 49) / 50) := by
          have := HNM.out
          unfold R.many at this
          split at this <;> omega
        have HM := Lib.hid hm
        clear hlen hm
        go_wp2
        all_goals go_ret
        all_goals refine ⟨ret_v (v_bool ?_), hb2'⟩
        all_goals (rw [beq_iff_eq]; have := HM.out; omega)
  · have t1 : (2000 : Int) < (l.length : Int) := by omega
    go_enter Try.func7, Try.ntmps7
    go_wp2_with fail
    refine HA.out.mono ?_
    rintro r w1 ⟨rfl, hb1⟩
    go_wp2
    go_ret
    exact ⟨rfl, hb1⟩

end Go.Proofs.Ytgfnjineojihjaa
