/-
  Walks of layer slot's laws: SlotCrash.
-/
import Derived.Test.YtbjbnjpdackloaaSoBss
namespace Go.Proofs.Ytbjbnjpdackloaa
open Go.RowKit

section
variable {H : World → (Nat → Prop) → Value → D.Dk → Prop}

set_option maxRecDepth 100000 in
set_option maxHeartbeats 8000000 in
theorem SlotCrash_walk (K : DiskOk H) (KF : FrameOk) (w : World) (vo : Value) (olds : List (List UInt8)) (Go_ : Nat → Prop) (hO : Bs8 w Go_ vo olds) (hGo : ∀ x, Go_ x → x < w.heap.size) (hol : olds.length ≤ 9223372036854775807) (vb : Value) (b : List UInt8) (Gb : Nat → Prop) (hB : SlB w Gb vb b) (hG : ∀ x, Gb x → x < w.heap.size) (hbl : b.length ≤ 9223372036854775807) (vk : Value) (keep : List Bool) (Gk : Nat → Prop) (hKp : SlT w Gk vk keep) (hGk : ∀ x, Gk x → x < w.heap.size) :
    Calls Try.prog 5 #[vo, vb, vk] w fun e w' => e = .returned (.bool true) ∧ Below w.heap.size w w' := by
  have HO := Lib.hid hO
  obtain ⟨Ao, capo, rfl, hco⟩ : ∃ A cap, vo = .slice A olds.length cap ∧ olds.length ≤ cap := by
    obtain ⟨A, cap, e, hc, _⟩ := hO
    exact ⟨A, cap, e, hc⟩
  clear hO
  have HB := Lib.hid hB
  obtain ⟨Ab, capb, rfl, hcb⟩ := Sg_form hB
  clear hB
  have HKp := Lib.hid hKp
  obtain ⟨Ak, capk, rfl, hck⟩ := Sg_form hKp
  clear hKp
  have HA := Lib.hid (awake8_any K KF w)
  go_enter Try.func5, Try.ntmps5
  go_wp2_with fail
  refine HA.out.mono ?_
  rintro e w1 ⟨rfl, hb1⟩
  have HN := Lib.hid (K.new 12 w1 (by decide) (by decide))
  clear HA
  go_wp2_with fail
  refine HN.out.mono ?_
  rintro e w2 ⟨vd, rfl, hH2, hb2⟩
  obtain ⟨da, rfl⟩ := K.ptr hH2
  have HH2 : Hid (H w2 (Go.Proofs.Ytbjbnjpdackloaa.S.New w1 w2) (.pointer (some da)) newD8) := Lib.hid hH2
  have hs1 := hb1.size
  have hbw2 := below_two hb1 hb2
  have hF2 : ∀ b, Go.Proofs.Ytbjbnjpdackloaa.S.New w1 w2 b → w.heap.size ≤ b := fun b g => Nat.le_trans hs1 g.1
  generalize Go.Proofs.Ytbjbnjpdackloaa.S.New w1 w2 = F2 at *
  clear HN hH2 hb1 hb2
  by_cases h20 : 20 < olds.length
  · have h20' : (20 : Int) < (olds.length : Int) := by omega
    go_wp2
    go_ret
    exact ⟨rfl, hbw2⟩
  have h20' : ¬ (20 : Int) < (olds.length : Int) := by omega
  by_cases h300 : 200 < b.length
  · have h300' : (200 : Int) < (b.length : Int) := by omega
    go_wp2
    go_ret
    exact ⟨rfl, hbw2⟩
  have h300' : ¬ (200 : Int) < (b.length : Int) := by omega
  have HS : Hid (Sv H w w2 da newD8 [] 0 F2) := Lib.hid ⟨HH2.out, sb0_st, new8_len, by decide, by decide, hbw2, hF2⟩
  clear HH2
  go_wp2_with fail
  go_loopw [9, 10, 11] (fun la o i wr => ∃ (k : Nat) (S : List (List UInt8)) (d : D.Dk) (F : Nat → Prop), k ≤ olds.length ∧ i = .int .i64 (k : Int) ∧ la = .int .u32 (S.length : Int) ∧ o = .string ⟨(oB (Z.last S)).toArray⟩ ∧ Sv H w wr da d S k F) (fun _ _ i _ => olds.length - (intOf i).toNat)
  case atStart => exact ⟨0, [], newD8, F2, by omega, rfl, rfl, by rfl, HS.out⟩
  case round =>
    clear HS
    obtain ⟨k, S, d, F, hk, rfl, rfl, rfl, hV⟩ := hrel
    have HV := Lib.hid hV
    have hlow := hV.low
    have hsl := hV.sl
    clear hV
    obtain ⟨m, hm⟩ : ∃ m, m = S.length := ⟨_, rfl⟩
    rw [← hm] at hsl ⊢
    have HM := Lib.hid hm
    clear hm
    by_cases hlt : k < olds.length
    · have hlt' : (k : Int) < (olds.length : Int) := by omega
      have HEq : Hid ((if R.many olds[k].length ≤ 4 then 0 else 3 : Int) = (if R.many olds[k].length ≤ 4 then 0 else 3 : Int)) := Lib.hid rfl
      obtain ⟨a, capa, vb5, e5, _, hGa, hxl, hx0, hx1⟩ := (HO.out.below hlow hGo).nth k hlt
      cases e5
      obtain ⟨A5, cap5, rfl, hc5⟩ := Sg_form hx1
      have HX1 := Lib.hid hx1
      obtain ⟨x, hx⟩ : ∃ x, x = olds[k] := ⟨_, rfl⟩
      rw [← hx] at hx0 hc5 hxl HX1
      have HXE := Lib.hid hx
      clear hx hx1
      have HX0 := Lib.hid hx0
      have hab : a.block < w.heap.size := hGo _ hGa
      have HKc : Hid (∀ w' : World, (∀ b, b < w.heap.size → w'.heap[b]? = wr.heap[b]?) → w'.cell? (a.add k) = some (.slice A5 x.length cap5)) := Lib.hid fun w' hb => (World.cell?_of_block (hb _ (by rw [Go.Proofs.Ytbjbnjpdackloaa.S.add_block]; exact hab))).trans HX0.out
      have hsr := hlow.size
      have HAr : Hid (Calls Try.prog 20 #[] wr.drew fun e w' => e = .returned ar8 ∧ w'.cell? (a.add k) = some (.slice A5 x.length cap5) ∧ Below wr.heap.size wr w') :=
        Lib.hid ((area_any wr.drew).mono (fun e w' ⟨e1, hb⟩ => ⟨e1, HKc.out _ (fun b hb2 => hb.block b (Nat.lt_of_lt_of_le hb2 hsr)), ⟨hb.os, hb.tape, hb.output, hb.size, hb.block⟩⟩))
      have HSv : Hid (∀ w', Below wr.heap.size wr w' → Calls Try.prog 19 #[.pointer (some da), ar8, .int .u32 (IntKind.u32.wrap ((m : Int) + 1)), .slice A5 x.length cap5] w' fun e w'' => e = .returned (.int .i64 (if R.many x.length ≤ 4 then 0 else 3)) ∧ w''.cell? (a.add k) = some (.slice A5 x.length cap5) ∧ (∃ F', H w'' F' (.pointer (some da)) (if R.many x.length ≤ 4 then Z.save d 1 4 (m + 1) x else d) ∧ ∀ b, F' b → F b ∨ Go.Proofs.Ytbjbnjpdackloaa.S.New w' w'' b) ∧ Turn F w' w'') :=
        Lib.hid fun w' hb => by
          have := sv8 K KF (gen := m + 1) (K.below HV.out.hd hb) HV.out.len (by have := HV.out.row; omega) (HX1.out.below (hb.mono hsr) hGo) (fun b g => Nat.lt_of_lt_of_le (hGo b g) (Nat.le_trans hsr hb.size)) hxl (by omega) (by omega) _ _ rfl rfl
          rw [show ((m + 1 : Nat) : Int) = IntKind.u32.wrap ((m : Int) + 1) by rw [IntKind.wrap_u32]; omega] at this
          exact this.mono (fun e w'' ⟨e1, h2, h3⟩ => ⟨e1, HKc.out _ (fun b hb2 => (h3.block b (by have := hb.size; omega) (fun f => by have := HV.out.f b f; omega)).trans (hb.block b (by omega))), h2, h3⟩)
      have hj0 : (0 : Int) ≤ (k : Int) := by omega
      obtain ⟨E, hE⟩ : ∃ E : Int, E = if R.many x.length ≤ 4 then 0 else 3 := ⟨_, rfl⟩
      rw [← hE] at HSv
      have HE := Lib.hid hE
      clear hE HEq
      have hk0 : wr.drew.cell? (a.add k) = some (.slice A5 x.length cap5) := hx0
      go_wp2_with fail
      go_region_held3 (fun w' => w'.cell? (a.add k) = some (.slice A5 x.length cap5))
        (first | with_reducible exact hk0 | with_reducible assumption)
        (first
          | (go_at_call 20
             with_reducible refine HAr.out.mono ?_
             rintro e1 w5 ⟨rfl, hS5, hb5⟩)
          | (go_at_call 19
             with_reducible refine (HSv.out _ hb5).mono ?_
             rintro e2 w6 ⟨rfl, hS6, ⟨F6, hH6, hF6⟩, ht6⟩))
      have HN := Lib.hid (HV.out.next (b := x) (by omega) hb5 (by rw [← HM.out]; exact hH6) hF6 ht6)
      clear hS5 HAr HSv hH6 hF6 HKc HX0 hx0 hk0
      by_cases hmm : R.many x.length ≤ 4
      · rw [if_pos hmm, if_pos hmm] at HN
        have hE : E = 0 := by rw [HE.out, if_pos hmm]
        subst hE
        have HLn : Hid ((S ++ [x]).length = m + 1) := Lib.hid (by rw [List.length_append, List.length_singleton, HM.out])
        have hcv := conv_sg (HX1.out.keep (w' := w6) fun p hp => World.cell?_of_block ((ht6.block _ (by have := hGo _ hp; have := hb5.size; omega) (fun f => by have := HV.out.f _ f; have := hGo _ hp; omega)).trans (hb5.block _ (by have := hGo _ hp; omega))))
        have HOl : Hid (oB (Z.last (S ++ [x])) = x) := Lib.hid (by rw [last_snoc]; rfl)
        clear hb5 ht6
        go_wp2_with fail
        go_roundw
        case rel => exact ⟨k + 1, S ++ [x], _, _, by omega, by go_num, by rw [HLn.out]; go_num, by rw [HOl.out], HN.out⟩
        case measure => simp [intOf]; omega
      · rw [if_neg hmm, if_neg hmm] at HN
        have hE : (E == 0) = false := by rw [HE.out, if_neg hmm]; rfl
        have hE' : ¬ E = 0 := by rw [HE.out, if_neg hmm]; decide
        clear hb5 ht6 hS6
        go_wp2_with fail
        go_roundw
        case rel => exact ⟨k + 1, S, _, _, by omega, by go_num, by rw [HM.out], rfl, HN.out⟩
        case measure => simp [intOf]; omega
    · obtain rfl : k = olds.length := by omega
      have hlt' : ¬ (olds.length : Int) < (olds.length : Int) := by omega
      have HSy := Lib.hid (K.sync HV.out.hd)
      go_wp2_with fail
      refine HSy.out.mono ?_
      rintro e w3 ⟨rfl, hH3, ht3⟩
      have hsr := hlow.size
      have hbw3 : Below w.heap.size w w3 := hlow.trans (ht3.below hsr HV.out.f)
      have hF3 : ∀ x, More F wr w3 x → w.heap.size ≤ x := fun x g => g.elim (HV.out.f x) (fun g => by have := g.1; omega)
      have hSt := HV.out.st.sync
      have h12 : d.sync.secs.length = 12 := (D.sync_len _).trans HV.out.len
      have hrow : d.sync.row = [] := rfl
      generalize More F wr w3 = F3 at *
      generalize d.sync = ds at *
      have HH3 := Lib.hid hH3
      have HSt := Lib.hid hSt
      have HAr := Lib.hid (area_any w3)
      clear HSy hH3 ht3 hSt
      go_wp2_with fail
      refine HAr.out.mono ?_
      rintro e w4 ⟨rfl, hb4⟩
      have hbw4 := below_two hbw3 hb4
      have hsv := sv8 K KF (gen := m + 1) (K.below HH3.out hb4) h12 (by rw [hrow]; decide) (HB.out.below hbw4 hG) (fun b g => Nat.lt_of_lt_of_le (hG b g) hbw4.size) (by omega) (by omega) (by omega) 0 (Z.save ds 1 4 (m + 1) b) (by rw [if_pos (many200 (by omega))]) (by rw [if_pos (many200 (by omega))])
      rw [show ((m + 1 : Nat) : Int) = (m : Int) + 1 by omega] at hsv
      have HSv := Lib.hid hsv
      clear hsv HAr
      go_wp2_with fail
      refine HSv.out.mono ?_
      rintro e w5 ⟨rfl, ⟨F5, hH5, hF5'⟩, ht5⟩
      have hbw5 := hbw4.trans (ht5.below hbw4.size hF3)
      have hF5 : ∀ x, F5 x → w.heap.size ≤ x := fun x g => (hF5' x g).elim (hF3 x) (fun g => Nat.le_trans hbw4.size g.1)
      have HCr := Lib.hid (K.crash Gk (.slice Ak keep.length capk) keep hH5 (HKp.out.below hbw5 hGk) (fun b g => Nat.lt_of_lt_of_le (hGk b g) hbw5.size) (fun b g f => by have := hGk b g; have := hF5 b f; omega))
      have HRes : Hid (Z.load ((Z.save ds 1 4 (m + 1) b).crash keep) 1 4 = some (m + 1, b) ∨ Z.load ((Z.save ds 1 4 (m + 1) b).crash keep) 1 4 = Z.last S) := Lib.hid (by rw [HM.out]; exact HSt.out.crash hrow (many200 (by omega)) (by rw [← HM.out]; omega) keep)
      have h12' : ((Z.save ds 1 4 (m + 1) b).crash keep).secs.length = 12 := (D.crash_len _ _).trans ((Z.save_len ..).trans h12)
      clear HSv hH5 ht5 hF5' HSt
      go_wp2_with fail
      refine HCr.out.mono ?_
      rintro e w6 ⟨rfl, hH6, ht6⟩
      have hbw6 := hbw5.trans (ht6.below hbw5.size hF5)
      generalize (Z.save ds 1 4 (m + 1) b).crash keep = dc at *
      have HH6 := Lib.hid hH6
      have HAr := Lib.hid (area_any w6)
      clear HCr hH6 ht6
      go_wp2_with fail
      refine HAr.out.mono ?_
      rintro e w7 ⟨rfl, hb7⟩
      have hbw7 := below_two hbw6 hb7
      obtain ⟨o, ho⟩ : ∃ o, o = Z.load dc 1 4 := ⟨_, rfl⟩
      have HLd := Lib.hid (ld8 K KF (K.below HH6.out hb7) h12' o ho.symm)
      rw [← ho] at HRes
      clear HAr ho
      go_wp2_with fail
      refine HLd.out.mono ?_
      rintro e w8 ⟨v8, rfl, hB8, hb8⟩
      have hbw8 := below_two hbw7 hb8
      have k1 := conv_sg hB8
      have k2 := conv_sg (HB.out.below hbw8 hG)
      obtain ⟨A8, cap8, rfl, hc8⟩ := Sg_form hB8
      clear HLd hB8 HH6
      rcases HRes.out with e1 | e1
      · subst e1
        rw [show oB (some (m + 1, b)) = b from rfl] at *
        rw [show ((oG (some (m + 1, b)) : Nat) : Int) = (m : Int) + 1 by show ((m + 1 : Nat) : Int) = _; omega, show (some (m + 1, b)).isSome = true from rfl]
        have hne : ((m : Int) + 1 == (m : Int)) = false := by simp; omega
        go_wp2
        go_ret
        exact ⟨rfl, hbw8⟩
      · subst e1
        rw [last_g, last_s, ← HM.out]
        have hne : ((m : Int) == (m : Int) + 1) = false := by simp; omega
        have hne' : ¬ (m : Int) = (m : Int) + 1 := by omega
        by_cases h0 : 0 < m
        · have h0' : (0 : Int) < (m : Int) := by omega
          rw [decide_eq_true h0]
          go_wp2
          go_ret
          exact ⟨rfl, hbw8⟩
        · have h0' : ¬ (0 : Int) < (m : Int) := by omega
          rw [decide_eq_false h0]
          go_wp2
          go_ret
          exact ⟨rfl, hbw8⟩
end

end Go.Proofs.Ytbjbnjpdackloaa
