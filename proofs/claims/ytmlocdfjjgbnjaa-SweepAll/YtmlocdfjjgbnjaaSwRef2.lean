/-
  Walks of the document's sweep: Needed.
-/
import Derived.Test.YtmlocdfjjgbnjaaSwRef1
namespace Go.Proofs.Ytmlocdfjjgbnjaa.Sw
open Cn
/-- whether the version at a place is needed, of so many timestamps -/
def isB (c : Ch) (i : Nat) (L : List Int) : Bool := !(getV c i).done || decide ((i : Int) = lastI c maxI c.length) || L.any (fun a => decide ((i : Int) = lastI c a c.length))
theorem isB_snoc (c : Ch) (i : Nat) (L : List Int) (a : Int) : isB c i (L ++ [a]) = (isB c i L || decide ((i : Int) = lastI c a c.length)) := by
  unfold isB
  rw [List.any_append, List.any_cons, List.any_nil, Bool.or_false, Bool.or_assoc, Bool.or_assoc, Bool.or_assoc]
theorem need_at (c : Ch) (act : List Int) {i : Nat} (hi : i < c.length) : (isB c i (counts c act) && mayB c) = needB c act c[i] := by
  by_cases hm : May c
  · unfold isB needB
    rw [(mayB_iff c).2 hm, getV_at hi, Bool.and_true, Bool.true_and]
    have e : ∀ ts, decide ((i : Int) = lastI c ts c.length) = topB c ts c[i] := fun ts => by
      cases h : topB c ts c[i] with
      | true => exact decide_eq_true ((lastI_top hm ts hi).2 h)
      | false => exact decide_eq_false (fun q => by rw [(lastI_top hm ts hi).1 q] at h; cases h)
    simp only [e]
  · rw [need_not hm, mayB_false hm, Bool.and_false]
theorem needs_take (c : Ch) (act : List Int) {i : Nat} (hi : i < c.length) : (needs c act).take (i + 1) = (needs c act).take i ++ [needB c act c[i]] := by
  have h : i < (needs c act).length := by unfold needs; rw [List.length_map]; exact hi
  rw [List.take_succ_eq_append_getElem h]
  congr 2
  exact List.getElem_map ..
end Go.Proofs.Ytmlocdfjjgbnjaa.Sw

namespace Go.Proofs.Ytmlocdfjjgbnjaa
open Go.RowKit

set_option maxRecDepth 100000 in
set_option maxHeartbeats 8000000 in
theorem rneeded13_any {w : World} {F G : Nat → Prop} {v va : Value} {c : Cn.Ch} {act : List Int} (h : SlC w F v c) (hF : ∀ b, F b → b < w.heap.size) (hl : c.length ≤ 1000) (ha : SlN w G va act) (hG : ∀ b, G b → b < w.heap.size) (hla : act.length ≤ 1000) :
    Calls Try.prog 13 #[v, va] w fun e w' => ∃ v', e = .returned v' ∧ SlO w' (S.New w w') v' (Sw.needs c act) ∧ Below w.heap.size w w' := by
  have HS := Lib.hid h
  have HC := Lib.hid (rcounts13_any h hF (by omega) ha hG (by omega))
  obtain ⟨A, cap, rfl, hcap⟩ := SlC.form h
  obtain ⟨B, capb, rfl, hcapb⟩ := num_form ha
  have HLs : Hid (∀ W, Below w.heap.size w W → ∀ ts, Calls Try.prog 37 #[.slice A c.length cap, .int .i64 ts] W fun e w' => e = .returned (.int .i64 (Sw.lastI c ts c.length)) ∧ Still W w') := Lib.hid (fun W hb ts => rlast13_any (HS.out.below hb hF) (by omega) ts)
  have HMy : Hid (∀ W, Below w.heap.size w W → Calls Try.prog 18 #[.slice A c.length cap] W fun e w' => e = .returned (.bool (Cn.mayB c)) ∧ Still W w') := Lib.hid (fun W hb => rmay10_any (HS.out.below hb hF) (by omega))
  have HLe := Lib.hid (counts_len c act)
  have HNl : Hid ((Sw.needs c act).length = c.length) := Lib.hid (by unfold Sw.needs; rw [List.length_map])
  clear h ha
  go_enter Try.func13, Try.ntmps13
  go_wp2_with (go_at_call 36; refine HC.out.mono ?_; rintro e w1 ⟨v1, rfl, h1, hb1⟩; have H1 := Lib.hid h1; have HB1 := Lib.hid hb1; obtain ⟨A1, c1, rfl, _⟩ := num_form h1; clear h1 hb1 HC)
  obtain ⟨L, hL⟩ : ∃ L, L = Sw.counts c act := ⟨_, rfl⟩
  rw [← hL] at H1 HLe ⊢
  have HLd := Lib.hid hL
  have hl2 : L.length ≤ 2000 := by have := HLe.out; omega
  clear hL
  go_loopw [5, 7, 8, 9] (fun r i _ _ wr => ∃ (k : Nat), k ≤ c.length ∧ i = .int .i64 (k : Int) ∧ Hid (wr.ownsRow w1.heap.size 4 1 r k (booV ((Sw.needs c act).take k))) ∧ Hid (Below w1.heap.size w1 wr)) (fun _ i _ _ _ => c.length - (intOf i).toNat)
  case atStart => exact ⟨0, Nat.zero_le _, rfl, Lib.hid (S.own_nil ..), Lib.hid (Below.refl _ _)⟩
  case round =>
    obtain ⟨i, hi, rfl, HO, HB⟩ := hrel
    obtain ⟨Ar, cr, rfl⟩ := own_slice HO.out
    have HBw := Lib.hid (HB1.out.trans (HB.out.mono HB1.out.size))
    by_cases hlt : i < c.length
    · have hlt' : (i : Int) < (c.length : Int) := by omega
      have hi0 : (0 : Int) ≤ (i : Int) := by omega
      obtain ⟨a, _, ea, _, _, _, _, _, x3⟩ := SlC.nth (HS.out.below HBw.out hF) i hlt
      cases ea
      have HN : Hid (Sw.isB c i [] = (!c[i].done || decide ((i : Int) = Sw.lastI c Sw.maxI c.length))) := Lib.hid (by unfold Sw.isB; rw [Sw.getV_at hlt, List.any_nil, Bool.or_false])
      have HX := Lib.hid (Sw.need_at c act hlt)
      rw [← HLd.out] at HX
      have HT := Lib.hid (Sw.needs_take c act hlt)
      generalize Sw.needB c act c[i] = nb at *
      have HL0 := Lib.hid (HLs.out wr HBw.out 9223372036854775807)
      -- behind the first test
      cases hd : c[i].done with
      | false =>
        rw [hd] at x3
        have HI0 : Hid (Sw.isB c i (L.take 0) = true) := Lib.hid (by rw [List.take_zero, HN.out, hd]; rfl)
        clear hd HN HL0
        go_wp2_with fail
        obtain ⟨w3, hw3⟩ : ∃ w3, w3 = wr := ⟨_, rfl⟩
        rw [← hw3] at HO HB ⊢
        clear hw3 x3 HBw
        have HO3 := HO
        have HB3 := HB
        clear HO HB
        have HL1 : Hid (SlN w3 (S.New w w1) (.slice A1 L.length c1) L) := Lib.hid (H1.out.below HB3.out (fun b q => q.2))
        go_loopw [8, 9] (fun b kv wr => ∃ (k : Nat) (Bk : Bool), k ≤ L.length ∧ b = .bool Bk ∧ kv = .int .i64 (k : Int) ∧ Hid (Sw.isB c i (L.take k) = Bk) ∧ Hid (Still w3 wr)) (fun _ kv _ => L.length - (intOf kv).toNat)
        case atStart => exact ⟨0, true, Nat.zero_le _, rfl, rfl, HI0, Lib.hid (Still.refl _)⟩
        case round =>
          obtain ⟨k, Bk, hk, rfl, rfl, HIk, HW⟩ := hrel
          have HB5 : Hid (Below w1.heap.size w1 wr) := Lib.hid (HB3.out.trans (HW.out.low.mono HB3.out.size))
          have HBw5 := Lib.hid (HB1.out.trans (HB5.out.mono HB1.out.size))
          have HO5 := Lib.hid (S.own_below HO3.out HW.out.low)
          by_cases hkl : k < L.length
          · have hkl' : (k : Int) < (L.length : Int) := by omega
            have hk0 : (0 : Int) ≤ (k : Int) := by omega
            obtain ⟨al, _, eal, _, _, xl⟩ := num_nth HL1.out k hkl
            cases eal
            have xl := (HW.out.cell _).trans xl
            have HS1 : Hid (Sw.isB c i (L.take (k + 1)) = (Bk || decide ((i : Int) = Sw.lastI c L[k] c.length))) := Lib.hid (by rw [List.take_succ_eq_append_getElem hkl, Sw.isB_snoc, HIk.out])
            have HLk := Lib.hid (HLs.out wr HBw5.out L[k])
            generalize L[k] = ak at *
            cases Bk with
            | true =>
              have HS2 : Hid (Sw.isB c i (L.take (k + 1)) = true) := Lib.hid (by rw [HS1.out, Bool.true_or])
              clear HS1 HLk
              go_wp2
              go_roundw
              case rel => exact ⟨k + 1, true, by omega, rfl, by go_num, HS2, HW⟩
              case measure => simp [intOf]; omega
            | false =>
              have HS2 : Hid (Sw.isB c i (L.take (k + 1)) = ((i : Int) == Sw.lastI c ak c.length)) := Lib.hid (by rw [HS1.out, Bool.false_or]; rfl)
              clear HS1
              generalize Sw.lastI c ak c.length = z at *
              go_wp2_with (go_at_call 37; refine HLk.out.mono ?_; rintro e w4 ⟨rfl, hs4⟩; have HS4 := Lib.hid (HW.out.trans hs4); clear hs4)
              go_roundw
              case rel => exact ⟨k + 1, _, by omega, rfl, by go_num, HS2, HS4⟩
              case measure => simp [intOf]; omega
          · obtain rfl : k = L.length := by omega
            have hkl' : ¬ (L.length : Int) < (L.length : Int) := by omega
            have HE : Hid (Sw.isB c i L = Bk) := Lib.hid (by have := HIk.out; rw [List.take_length] at this; exact this)
            cases Bk with
            | true =>
              have HNB : Hid (Cn.mayB c = nb) := Lib.hid (by rw [← HX.out, HE.out, Bool.true_and])
              rw [HNB.out] at HMy
              clear HNB HX HE HIk
              go_wp2_with (first
                | (go_at_call 18; refine (HMy.out _ HBw5.out).mono ?_; rintro e w6 ⟨rfl, hs6⟩; have HB6 : Hid (Below w1.heap.size w1 w6) := Lib.hid (HB5.out.trans (hs6.low.mono HB5.out.size)); have HO6 := Lib.hid (S.own_below HO5.out hs6.low); clear hs6 HB5 HO5 HMy; have HB5 := HB6; have HO5 := HO6; clear HB6 HO6)
                | (at_builtin; refine S.wpList_append_sg elBo rfl _ _ rfl (base := w1.heap.size) (n := i) (m := 1) (xs := booV ((Sw.needs c act).take i)) (cs := [.bool nb]) rfl rfl (HO5.out.alloc _) (S.Sg.one _ 4 (.bool nb)) (by simp [Value.oneCell']) (by omega) (by omega) (Nat.le_trans HB5.out.size (by simp)) ?_
                   intro v7 w7 hown7 hgrow7 _
                   have HB7 : Hid (Below w1.heap.size w1 w7) := Lib.hid ((HB5.out.alloc HB5.out.size (.cells #[.bool nb] 4)).trans (S.below_base (HO5.out.alloc _) (Nat.le_trans HB5.out.size (by simp)) hgrow7))
                   have HO7 : Hid (w7.ownsRow w1.heap.size 4 1 v7 (i + 1) (booV ((Sw.needs c act).take (i + 1)))) := Lib.hid (by rw [HT.out, booV_append]; exact hown7)
                   clear hown7 hgrow7 HB5 HO5))
              go_roundw
              case rel => exact ⟨i + 1, by omega, by go_num, HO7, HB7⟩
              case measure => simp [intOf]; omega
            | false =>
              have HNB : Hid (nb = false) := Lib.hid (by rw [← HX.out, HE.out, Bool.false_and])
              have HT : Hid ((Sw.needs c act).take (i + 1) = (Sw.needs c act).take i ++ [false]) := Lib.hid (by rw [HT.out, HNB.out])
              clear HNB HX HE HIk
              go_wp2_with (first
                
                | (at_builtin; refine S.wpList_append_sg elBo rfl _ _ rfl (base := w1.heap.size) (n := i) (m := 1) (xs := booV ((Sw.needs c act).take i)) (cs := [.bool false]) rfl rfl (HO5.out.alloc _) (S.Sg.one _ 4 (.bool false)) (by simp [Value.oneCell']) (by omega) (by omega) (Nat.le_trans HB5.out.size (by simp)) ?_
                   intro v7 w7 hown7 hgrow7 _
                   have HB7 : Hid (Below w1.heap.size w1 w7) := Lib.hid ((HB5.out.alloc HB5.out.size (.cells #[.bool false] 4)).trans (S.below_base (HO5.out.alloc _) (Nat.le_trans HB5.out.size (by simp)) hgrow7))
                   have HO7 : Hid (w7.ownsRow w1.heap.size 4 1 v7 (i + 1) (booV ((Sw.needs c act).take (i + 1)))) := Lib.hid (by rw [HT.out, booV_append]; exact hown7)
                   clear hown7 hgrow7 HB5 HO5))
              go_roundw
              case rel => exact ⟨i + 1, by omega, by go_num, HO7, HB7⟩
              case measure => simp [intOf]; omega
      | true =>
        rw [hd] at x3
        have HI1 : Hid (Sw.isB c i (L.take 0) = ((i : Int) == Sw.lastI c Sw.maxI c.length)) := Lib.hid (by rw [List.take_zero, HN.out, hd, Bool.not_true, Bool.false_or]; rfl)
        unfold Sw.maxI at HI1
        clear hd HN
        generalize Sw.lastI c 9223372036854775807 c.length = z0 at *
        go_wp2_with (go_at_call 37; refine HL0.out.mono ?_; rintro e w3 ⟨rfl, hs3⟩; have HO3 := Lib.hid (S.own_below HO.out hs3.low); have HB3 : Hid (Below w1.heap.size w1 w3) := Lib.hid (HB.out.trans (hs3.low.mono HB.out.size)); clear hs3 x3 HO HB HBw)
        obtain ⟨B0, hB0⟩ : ∃ B0, B0 = ((i : Int) == z0) := ⟨_, rfl⟩
        rw [← hB0] at HI1 ⊢
        have HI0 := HI1
        clear hB0 HI1
        have HL1 : Hid (SlN w3 (S.New w w1) (.slice A1 L.length c1) L) := Lib.hid (H1.out.below HB3.out (fun b q => q.2))
        go_loopw [8, 9] (fun b kv wr => ∃ (k : Nat) (Bk : Bool), k ≤ L.length ∧ b = .bool Bk ∧ kv = .int .i64 (k : Int) ∧ Hid (Sw.isB c i (L.take k) = Bk) ∧ Hid (Still w3 wr)) (fun _ kv _ => L.length - (intOf kv).toNat)
        case atStart => exact ⟨0, B0, Nat.zero_le _, rfl, rfl, HI0, Lib.hid (Still.refl _)⟩
        case round =>
          obtain ⟨k, Bk, hk, rfl, rfl, HIk, HW⟩ := hrel
          have HB5 : Hid (Below w1.heap.size w1 wr) := Lib.hid (HB3.out.trans (HW.out.low.mono HB3.out.size))
          have HBw5 := Lib.hid (HB1.out.trans (HB5.out.mono HB1.out.size))
          have HO5 := Lib.hid (S.own_below HO3.out HW.out.low)
          by_cases hkl : k < L.length
          · have hkl' : (k : Int) < (L.length : Int) := by omega
            have hk0 : (0 : Int) ≤ (k : Int) := by omega
            obtain ⟨al, _, eal, _, _, xl⟩ := num_nth HL1.out k hkl
            cases eal
            have xl := (HW.out.cell _).trans xl
            have HS1 : Hid (Sw.isB c i (L.take (k + 1)) = (Bk || decide ((i : Int) = Sw.lastI c L[k] c.length))) := Lib.hid (by rw [List.take_succ_eq_append_getElem hkl, Sw.isB_snoc, HIk.out])
            have HLk := Lib.hid (HLs.out wr HBw5.out L[k])
            generalize L[k] = ak at *
            cases Bk with
            | true =>
              have HS2 : Hid (Sw.isB c i (L.take (k + 1)) = true) := Lib.hid (by rw [HS1.out, Bool.true_or])
              clear HS1 HLk
              go_wp2
              go_roundw
              case rel => exact ⟨k + 1, true, by omega, rfl, by go_num, HS2, HW⟩
              case measure => simp [intOf]; omega
            | false =>
              have HS2 : Hid (Sw.isB c i (L.take (k + 1)) = ((i : Int) == Sw.lastI c ak c.length)) := Lib.hid (by rw [HS1.out, Bool.false_or]; rfl)
              clear HS1
              generalize Sw.lastI c ak c.length = z at *
              go_wp2_with (go_at_call 37; refine HLk.out.mono ?_; rintro e w4 ⟨rfl, hs4⟩; have HS4 := Lib.hid (HW.out.trans hs4); clear hs4)
              go_roundw
              case rel => exact ⟨k + 1, _, by omega, rfl, by go_num, HS2, HS4⟩
              case measure => simp [intOf]; omega
          · obtain rfl : k = L.length := by omega
            have hkl' : ¬ (L.length : Int) < (L.length : Int) := by omega
            have HE : Hid (Sw.isB c i L = Bk) := Lib.hid (by have := HIk.out; rw [List.take_length] at this; exact this)
            cases Bk with
            | true =>
              have HNB : Hid (Cn.mayB c = nb) := Lib.hid (by rw [← HX.out, HE.out, Bool.true_and])
              rw [HNB.out] at HMy
              clear HNB HX HE HIk
              go_wp2_with (first
                | (go_at_call 18; refine (HMy.out _ HBw5.out).mono ?_; rintro e w6 ⟨rfl, hs6⟩; have HB6 : Hid (Below w1.heap.size w1 w6) := Lib.hid (HB5.out.trans (hs6.low.mono HB5.out.size)); have HO6 := Lib.hid (S.own_below HO5.out hs6.low); clear hs6 HB5 HO5 HMy; have HB5 := HB6; have HO5 := HO6; clear HB6 HO6)
                | (at_builtin; refine S.wpList_append_sg elBo rfl _ _ rfl (base := w1.heap.size) (n := i) (m := 1) (xs := booV ((Sw.needs c act).take i)) (cs := [.bool nb]) rfl rfl (HO5.out.alloc _) (S.Sg.one _ 4 (.bool nb)) (by simp [Value.oneCell']) (by omega) (by omega) (Nat.le_trans HB5.out.size (by simp)) ?_
                   intro v7 w7 hown7 hgrow7 _
                   have HB7 : Hid (Below w1.heap.size w1 w7) := Lib.hid ((HB5.out.alloc HB5.out.size (.cells #[.bool nb] 4)).trans (S.below_base (HO5.out.alloc _) (Nat.le_trans HB5.out.size (by simp)) hgrow7))
                   have HO7 : Hid (w7.ownsRow w1.heap.size 4 1 v7 (i + 1) (booV ((Sw.needs c act).take (i + 1)))) := Lib.hid (by rw [HT.out, booV_append]; exact hown7)
                   clear hown7 hgrow7 HB5 HO5))
              go_roundw
              case rel => exact ⟨i + 1, by omega, by go_num, HO7, HB7⟩
              case measure => simp [intOf]; omega
            | false =>
              have HNB : Hid (nb = false) := Lib.hid (by rw [← HX.out, HE.out, Bool.false_and])
              have HT : Hid ((Sw.needs c act).take (i + 1) = (Sw.needs c act).take i ++ [false]) := Lib.hid (by rw [HT.out, HNB.out])
              clear HNB HX HE HIk
              go_wp2_with (first
                
                | (at_builtin; refine S.wpList_append_sg elBo rfl _ _ rfl (base := w1.heap.size) (n := i) (m := 1) (xs := booV ((Sw.needs c act).take i)) (cs := [.bool false]) rfl rfl (HO5.out.alloc _) (S.Sg.one _ 4 (.bool false)) (by simp [Value.oneCell']) (by omega) (by omega) (Nat.le_trans HB5.out.size (by simp)) ?_
                   intro v7 w7 hown7 hgrow7 _
                   have HB7 : Hid (Below w1.heap.size w1 w7) := Lib.hid ((HB5.out.alloc HB5.out.size (.cells #[.bool false] 4)).trans (S.below_base (HO5.out.alloc _) (Nat.le_trans HB5.out.size (by simp)) hgrow7))
                   have HO7 : Hid (w7.ownsRow w1.heap.size 4 1 v7 (i + 1) (booV ((Sw.needs c act).take (i + 1)))) := Lib.hid (by rw [HT.out, booV_append]; exact hown7)
                   clear hown7 hgrow7 HB5 HO5))
              go_roundw
              case rel => exact ⟨i + 1, by omega, by go_num, HO7, HB7⟩
              case measure => simp [intOf]; omega
    · obtain rfl : i = c.length := by omega
      have hlt' : ¬ (c.length : Int) < (c.length : Int) := by omega
      go_wp2
      go_ret
      refine ⟨_, rfl, ?_, HBw.out⟩
      have h9 := S.Sg.of_own HO.out
      have e : (Sw.needs c act).take c.length = Sw.needs c act := by rw [← HNl.out, List.take_length]
      rw [e] at h9
      show S.Sg _ _ 1 _ (Sw.needs c act).length _
      rw [HNl.out]
      exact h9.wider (fun b q => ⟨Nat.le_trans HB1.out.size q.1, q.2⟩)
end Go.Proofs.Ytmlocdfjjgbnjaa
