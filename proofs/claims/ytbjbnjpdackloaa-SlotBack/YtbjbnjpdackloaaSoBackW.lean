/-
  Walks of layer slot's laws: SlotBack.
-/
import Derived.Test.YtbjbnjpdackloaaSoBss
namespace Go.Proofs.Ytbjbnjpdackloaa
open Go.RowKit

section
variable {H : World → (Nat → Prop) → Value → D.Dk → Prop}

set_option maxRecDepth 100000 in
set_option maxHeartbeats 8000000 in
theorem SlotBack_walk (K : DiskOk H) (KF : FrameOk) (w : World) (vo : Value) (olds : List (List UInt8)) (Go_ : Nat → Prop) (hO : Bs8 w Go_ vo olds) (hGo : ∀ x, Go_ x → x < w.heap.size) (hol : olds.length ≤ 9223372036854775807) (vb : Value) (b : List UInt8) (Gb : Nat → Prop) (hB : SlB w Gb vb b) (hG : ∀ x, Gb x → x < w.heap.size) (hbl : b.length ≤ 9223372036854775807) :
    Calls Try.prog 4 #[vo, vb] w fun e w' => e = .returned (.bool true) ∧ Below w.heap.size w w' := by
  have HO := Lib.hid hO
  obtain ⟨Ao, capo, rfl, hco⟩ : ∃ A cap, vo = .slice A olds.length cap ∧ olds.length ≤ cap := by
    obtain ⟨A, cap, e, hc, _⟩ := hO
    exact ⟨A, cap, e, hc⟩
  clear hO
  have HB := Lib.hid hB
  obtain ⟨Ab, capb, rfl, hcb⟩ := Sg_form hB
  clear hB
  have HA := Lib.hid (awake8_any K KF w)
  go_enter Try.func4, Try.ntmps4
  go_wp2_with fail
  refine HA.out.mono ?_
  rintro e w1 ⟨rfl, hb1⟩
  have HN := Lib.hid (K.new 12 w1 (by decide) (by decide))
  clear HA
  go_wp2_with fail
  refine HN.out.mono ?_
  rintro e w2 ⟨vd, rfl, hH2, hb2⟩
  obtain ⟨da, rfl⟩ := K.ptr hH2
  have HH2 : Hid (H w2 (Go.Proofs.Ytbjbnjpdackloaa.S.New w1 w2) (.pointer (some da)) newD8) := Lib.hid hH2
  have hs1 := hb1.size
  have hbw2 := below_two hb1 hb2
  have hF2 : ∀ b, Go.Proofs.Ytbjbnjpdackloaa.S.New w1 w2 b → w.heap.size ≤ b := fun b g => Nat.le_trans hs1 g.1
  generalize Go.Proofs.Ytbjbnjpdackloaa.S.New w1 w2 = F2 at *
  clear HN hH2 hb1 hb2
  by_cases h20 : 20 < olds.length
  · have h20' : (20 : Int) < (olds.length : Int) := by omega
    go_wp2
    go_ret
    exact ⟨rfl, hbw2⟩
  have h20' : ¬ (20 : Int) < (olds.length : Int) := by omega
  by_cases h300 : 300 < b.length
  · have h300' : (300 : Int) < (b.length : Int) := by omega
    go_wp2
    go_ret
    exact ⟨rfl, hbw2⟩
  have h300' : ¬ (300 : Int) < (b.length : Int) := by omega
  have HS : Hid (Sv H w w2 da newD8 [] 0 F2) := Lib.hid ⟨HH2.out, sb0_st, new8_len, by decide, by decide, hbw2, hF2⟩
  clear HH2
  go_wp2_with fail
  go_loopw [7, 8] (fun la i wr => ∃ (k : Nat) (S : List (List UInt8)) (d : D.Dk) (F : Nat → Prop), k ≤ olds.length ∧ i = .int .i64 (k : Int) ∧ la = .int .u32 (S.length : Int) ∧ Sv H w wr da d S k F) (fun _ i _ => olds.length - (intOf i).toNat)
  case atStart => exact ⟨0, [], newD8, F2, by omega, rfl, rfl, HS.out⟩
  case round =>
    clear HS
    obtain ⟨k, S, d, F, hk, rfl, rfl, hV⟩ := hrel
    have HV := Lib.hid hV
    have hlow := hV.low
    have hsl := hV.sl
    clear hV
    obtain ⟨m, hm⟩ : ∃ m, m = S.length := ⟨_, rfl⟩
    rw [← hm] at hsl ⊢
    have HM := Lib.hid hm
    clear hm
    by_cases hlt : k < olds.length
    · have hlt' : (k : Int) < (olds.length : Int) := by omega
      have HEq : Hid ((if R.many olds[k].length ≤ 4 then 0 else 3 : Int) = (if R.many olds[k].length ≤ 4 then 0 else 3 : Int)) := Lib.hid rfl
      obtain ⟨a, capa, vb5, e5, _, hGa, hxl, hx0, hx1⟩ := (HO.out.below hlow hGo).nth k hlt
      cases e5
      obtain ⟨A5, cap5, rfl, hc5⟩ := Sg_form hx1
      have HX1 := Lib.hid hx1
      obtain ⟨x, hx⟩ : ∃ x, x = olds[k] := ⟨_, rfl⟩
      rw [← hx] at hx0 hc5 hxl HX1
      have HXE := Lib.hid hx
      clear hx hx1
      have HX0 := Lib.hid hx0
      have hab : a.block < w.heap.size := hGo _ hGa
      have HKc : Hid (∀ w' : World, (∀ b, b < w.heap.size → w'.heap[b]? = wr.heap[b]?) → w'.cell? (a.add k) = some (.slice A5 x.length cap5)) := Lib.hid fun w' hb => (World.cell?_of_block (hb _ (by rw [Go.Proofs.Ytbjbnjpdackloaa.S.add_block]; exact hab))).trans HX0.out
      have hsr := hlow.size
      have HAr : Hid (Calls Try.prog 20 #[] wr.drew fun e w' => e = .returned ar8 ∧ w'.cell? (a.add k) = some (.slice A5 x.length cap5) ∧ Below wr.heap.size wr w') :=
        Lib.hid ((area_any wr.drew).mono (fun e w' ⟨e1, hb⟩ => ⟨e1, HKc.out _ (fun b hb2 => hb.block b (Nat.lt_of_lt_of_le hb2 hsr)), ⟨hb.os, hb.tape, hb.output, hb.size, hb.block⟩⟩))
      have HSv : Hid (∀ w', Below wr.heap.size wr w' → Calls Try.prog 19 #[.pointer (some da), ar8, .int .u32 (IntKind.u32.wrap ((m : Int) + 1)), .slice A5 x.length cap5] w' fun e w'' => e = .returned (.int .i64 (if R.many x.length ≤ 4 then 0 else 3)) ∧ w''.cell? (a.add k) = some (.slice A5 x.length cap5) ∧ (∃ F', H w'' F' (.pointer (some da)) (if R.many x.length ≤ 4 then Z.save d 1 4 (m + 1) x else d) ∧ ∀ b, F' b → F b ∨ Go.Proofs.Ytbjbnjpdackloaa.S.New w' w'' b) ∧ Turn F w' w'') :=
        Lib.hid fun w' hb => by
          have := sv8 K KF (gen := m + 1) (K.below HV.out.hd hb) HV.out.len (by have := HV.out.row; omega) (HX1.out.below (hb.mono hsr) hGo) (fun b g => Nat.lt_of_lt_of_le (hGo b g) (Nat.le_trans hsr hb.size)) hxl (by omega) (by omega) _ _ rfl rfl
          rw [show ((m + 1 : Nat) : Int) = IntKind.u32.wrap ((m : Int) + 1) by rw [IntKind.wrap_u32]; omega] at this
          exact this.mono (fun e w'' ⟨e1, h2, h3⟩ => ⟨e1, HKc.out _ (fun b hb2 => (h3.block b (by have := hb.size; omega) (fun f => by have := HV.out.f b f; omega)).trans (hb.block b (by omega))), h2, h3⟩)
      have hj0 : (0 : Int) ≤ (k : Int) := by omega
      obtain ⟨E, hE⟩ : ∃ E : Int, E = if R.many x.length ≤ 4 then 0 else 3 := ⟨_, rfl⟩
      rw [← hE] at HSv
      have HE := Lib.hid hE
      clear hE HEq
      have hk0 : wr.drew.cell? (a.add k) = some (.slice A5 x.length cap5) := hx0
      go_wp2_with fail
      go_region_held3 (fun w' => w'.cell? (a.add k) = some (.slice A5 x.length cap5))
        (first | with_reducible exact hk0 | with_reducible assumption)
        (first
          | (go_at_call 20
             with_reducible refine HAr.out.mono ?_
             rintro e1 w5 ⟨rfl, hS5, hb5⟩)
          | (go_at_call 19
             with_reducible refine (HSv.out _ hb5).mono ?_
             rintro e2 w6 ⟨rfl, hS6, ⟨F6, hH6, hF6⟩, ht6⟩))
      have HN := Lib.hid (HV.out.next (b := x) (by omega) hb5 (by rw [← HM.out]; exact hH6) hF6 ht6)
      clear hS5 HAr HSv hH6 hF6 HKc HX0 hx0 hk0
      by_cases hmm : R.many x.length ≤ 4
      · rw [if_pos hmm, if_pos hmm] at HN
        have hE : E = 0 := by rw [HE.out, if_pos hmm]
        subst hE
        have HLn : Hid ((S ++ [x]).length = m + 1) := Lib.hid (by rw [List.length_append, List.length_singleton, HM.out])
        clear hb5 ht6
        go_wp2_with fail
        go_roundw
        case rel => exact ⟨k + 1, S ++ [x], _, _, by omega, by go_num, by rw [HLn.out]; go_num, HN.out⟩
        case measure => simp [intOf]; omega
      · rw [if_neg hmm, if_neg hmm] at HN
        have hE : (E == 0) = false := by rw [HE.out, if_neg hmm]; rfl
        have hE' : ¬ E = 0 := by rw [HE.out, if_neg hmm]; decide
        clear hb5 ht6 hS6
        go_wp2_with fail
        go_roundw
        case rel => exact ⟨k + 1, S, _, _, by omega, by go_num, by rw [HM.out], HN.out⟩
        case measure => simp [intOf]; omega
    · obtain rfl : k = olds.length := by omega
      have hlt' : ¬ (olds.length : Int) < (olds.length : Int) := by omega
      have HAr := Lib.hid (area_any wr)
      go_wp2_with fail
      refine HAr.out.mono ?_
      rintro e w4 ⟨rfl, hb4⟩
      have hsr := hlow.size
      have hbw4 := below_two hlow hb4
      have hsv := sv8 K KF (gen := m + 1) (K.below HV.out.hd hb4) HV.out.len (by have := HV.out.row; omega) (HB.out.below hbw4 hG) (fun b g => Nat.lt_of_lt_of_le (hG b g) hbw4.size) (by omega) (by omega) (by omega) _ _ rfl rfl
      rw [show ((m + 1 : Nat) : Int) = (m : Int) + 1 by omega] at hsv
      clear HAr
      by_cases h2 : 200 < b.length
      · have h2' : (200 : Int) < (b.length : Int) := by omega
        rw [if_neg (many201 h2), if_neg (many201 h2)] at hsv
        have HSv := Lib.hid hsv
        clear hsv
        go_wp2_with fail
        refine HSv.out.mono ?_
        rintro e w5 ⟨rfl, ⟨F5, hH5, hF5⟩, ht5⟩
        have hbw5 := hbw4.trans (ht5.below hbw4.size HV.out.f)
        have HH5 := Lib.hid hH5
        have HAr := Lib.hid (area_any w5)
        clear HSv hH5 ht5 hF5
        go_wp2_with fail
        refine HAr.out.mono ?_
        rintro e w6 ⟨rfl, hb6⟩
        have HLd := Lib.hid (ld8 K KF (K.below HH5.out hb6) HV.out.len _ HV.out.st.load)
        rw [show Z.last S = Z.last S from rfl] at HLd
        have hbw6 := below_two hbw5 hb6
        clear HAr
        go_wp2_with fail
        refine HLd.out.mono ?_
        rintro e w7 ⟨v7, rfl, hB7, hb7⟩
        obtain ⟨A7, cap7, rfl, hc7⟩ := Sg_form hB7
        have hbw7 := below_two hbw6 hb7
        clear HLd hB7 HH5
        rw [last_g, last_s, ← HM.out]
        by_cases h0 : 0 < m
        · have h0' : (0 : Int) < (m : Int) := by omega
          rw [decide_eq_true h0]
          go_wp2
          go_ret
          exact ⟨rfl, hbw7⟩
        · have h0' : ¬ (0 : Int) < (m : Int) := by omega
          rw [decide_eq_false h0]
          go_wp2
          go_ret
          exact ⟨rfl, hbw7⟩
      · have h2' : ¬ (200 : Int) < (b.length : Int) := by omega
        rw [if_pos (many200 (by omega)), if_pos (many200 (by omega))] at hsv
        have HSv := Lib.hid hsv
        clear hsv
        go_wp2_with fail
        refine HSv.out.mono ?_
        rintro e w5 ⟨rfl, ⟨F5, hH5, hF5⟩, ht5⟩
        have hbw5 := hbw4.trans (ht5.below hbw4.size HV.out.f)
        have HH5 := Lib.hid hH5
        have HAr := Lib.hid (area_any w5)
        have HSt := Lib.hid (HV.out.st.save (b := b) (many200 (by omega)) (by rw [← HM.out]; omega))
        rw [← HM.out] at HSt
        clear HSv hH5 ht5 hF5
        go_wp2_with fail
        refine HAr.out.mono ?_
        rintro e w6 ⟨rfl, hb6⟩
        have HLd := Lib.hid (ld8 K KF (K.below HH5.out hb6) ((Z.save_len ..).trans HV.out.len) _ (HSt.out.load.trans (last_snoc S b)))
        have hbw6 := below_two hbw5 hb6
        clear HAr
        go_wp2_with fail
        refine HLd.out.mono ?_
        rintro e w7 ⟨v7, rfl, hB7, hb7⟩
        have hB7 : SlB w7 (Go.Proofs.Ytbjbnjpdackloaa.S.New w6 w7) v7 b := hB7
        have hbw7 := below_two hbw6 hb7
        have k1 := conv_sg hB7
        have k2 := conv_sg (HB.out.below hbw7 hG)
        obtain ⟨A7, cap7, rfl, hc7⟩ := Sg_form hB7
        clear HLd hB7 HH5
        rw [show ((oG (some (S.length + 1, b)) : Nat) : Int) = (m : Int) + 1 by show ((S.length + 1 : Nat) : Int) = _; rw [← HM.out]; omega, show (some (S.length + 1, b)).isSome = true from rfl]
        go_wp2
        go_ret
        exact ⟨rfl, hbw7⟩
end

end Go.Proofs.Ytbjbnjpdackloaa
