/-
  Walks of layer deps' laws: DepsSettle.
-/
import Derived.Test.YthbnbifagenpiaaDpTwo
namespace Go.Proofs.Ythbnbifagenpiaa
open Go.RowKit
theorem own_sliceN {w : World} {base k n : Nat} {e : TypeId} {v : Value} {xs : List Value} (h : w.ownsRow base e k v n xs) : ∃ A c, v = .slice A n c := by
  rcases h.2 with ⟨rfl, rfl⟩ | ⟨g, cap, _, rfl, _⟩
  · exact ⟨_, _, rfl⟩
  · exact ⟨_, _, rfl⟩
section
variable {H : World → (Nat → Prop) → Value → List Dp.Wt → Prop}

set_option maxRecDepth 100000 in
set_option maxHeartbeats 4000000 in
theorem DepsSettle_walk (K : DepsOk H) (w : World) (vd : Value) (ld : List Dd12) (ts : Int) (hts : I64 ts) (G0 : Nat → Prop) (hD : Dds12 w G0 vd ld) (hG0 : ∀ b, G0 b → b < w.heap.size) :
    Calls Try.prog 6 #[vd, .int .i64 ts] w fun e w' => e = .returned (.bool true) ∧ Below w.heap.size w w' := by
  have HK := Lib.hid K
  have HTs := Lib.hid hts
  have HAw := Lib.hid (awake12_any K w)
  have HR := Lib.hid (run12_at K hD hG0)
  obtain ⟨Ad, capd, rfl, hcd⟩ := hD.form
  clear hD hcd hts
  generalize ld.length = nd at *
  generalize Dp.runD (ld.take 60) = D at *
  go_enter Try.func6, Try.ntmps6
  go_wp2_with (first
    | (go_at_call 9; refine HAw.out.mono ?_; rintro e w1 ⟨rfl, b1⟩; have HB1 := Lib.hid b1; clear b1)
    | (go_at_call 17; refine (HR.out _ HB1.out).mono ?_; rintro e w2 ⟨v, rfl, h2, hl2, b2⟩; have HO2 := Lib.hid h2; have HL := Lib.hid hl2; have HB2 := Lib.hid (HB1.out.trans (b2.mono HB1.out.size)); have HB12 := Lib.hid b2.size; clear h2 hl2 b2)
    | (go_at_call 17; refine (HR.out _ HB2.out).mono ?_; rintro e w3 ⟨v', rfl, h3, _, b3⟩; have HO3 := Lib.hid h3; have HB23 := Lib.hid b3; have HB3 := Lib.hid (HB2.out.trans (b3.mono HB2.out.size)); clear h3 b3)
    | (go_at_call 20; refine (two_settle HK.out HO2.out HO3.out HB12.out HB23.out (Nat.le_trans HL.out (by omega)) ts HTs.out).mono ?_; rintro e w4 ⟨rfl, h4, b4⟩; have HS4 := Lib.hid h4; have HB4 := Lib.hid (HB3.out.trans (b4.mono HB1.out.size)); clear h4 b4)
    | (go_at_call 14
       refine (HS4.out.all HK.out (v := v') (d := D) (by simp) (Nat.le_trans HL.out (by omega))).mono ?_
       rintro e w5 ⟨v5, rfl, h5, b5⟩
       have HS5 := Lib.hid h5
       have HB5 := Lib.hid (HB4.out.trans (b5.mono HB4.out.size))
       obtain ⟨A5, c5, e5, _⟩ := h5.form (List.mem_cons_self ..)
       have e5 : v5 = .slice A5 (Dp.all D).length c5 := e5
       subst e5
       have HOk : Hid (Dp.Ok D ∧ ∀ p ∈ D, p.1 ≤ 9223372036854775807) := Lib.hid (by
         obtain ⟨F, q1, _⟩ := HO3.out
         exact ⟨HK.out.ok q1, HK.out.rng q1⟩)
       clear h5 b5))
  have HLa : Hid ((Dp.all D).length ≤ 60) := Lib.hid (Nat.le_trans (Dp.all_len D) HL.out)
  have HI : Hid (∀ x ∈ Dp.all D, I64 x) := Lib.hid (fun x hx => Dp.all_i64 HOk.out.1 HOk.out.2 hx)
  clear HS4 HB4 HO2 HO3
  generalize Dp.all D = L at *
  have hl60 := HLa.out
  go_loopw [9] (fun vi wr => ∃ i : Nat, i ≤ L.length ∧ vi = .int .i64 (i : Int) ∧ Hid (Sees H wr [(v, Dp.without D [ts]), (v', D)] [(.slice A5 L.length c5, L)]) ∧ Hid (Below w.heap.size w wr)) (fun vi _ => L.length - (intOf vi).toNat)
  case atStart => exact ⟨0, by omega, rfl, HS5, HB5⟩
  case round =>
    clear HS5 HB5
    obtain ⟨i, hi, rfl, HS, HB⟩ := hrel
    by_cases hil : i < L.length
    · have hil' : (i : Int) < (L.length : Int) := by omega
      have hi0 : (0 : Int) ≤ (i : Int) := by omega
      obtain ⟨a5, _, e5, x5⟩ := HS.out.nth (vr := .slice A5 L.length c5) (l := L) (by simp) i hil
      cases e5
      have HIx := Lib.hid (HI.out _ (List.getElem_mem hil))
      have HX5 : Hid (∀ W O R, Sees H W O R → (.slice (some a5) L.length c5, L) ∈ R → W.cell? (a5.add i) = some (.int .i64 L[i])) := Lib.hid (fun W O R h hr => by
        obtain ⟨a', c', e', x'⟩ := h.nth hr i hil
        cases e'
        exact x')
      generalize L[i] = x at *
      have HWt := Lib.hid (HS.out.waits HK.out (v := v') (d := D) (by simp) (Nat.le_trans HL.out (by omega)) x HIx.out)
      have HWv : Hid (∀ W R, Sees H W [(v, Dp.without D [ts]), (v', D)] R → Calls Try.prog 15 #[v, .int .i64 x] W fun e w' => ∃ v2, e = .returned v2 ∧ Sees H w' [(v, Dp.without D [ts]), (v', D)] ((v2, Dp.waits (Dp.without D [ts]) x) :: R) ∧ Below W.heap.size W w') := Lib.hid (fun W R h => h.waits HK.out (by simp) (Nat.le_trans Dp.without_len (Nat.le_trans HL.out (by omega))) x HIx.out)
      have HM := Lib.hid (Dp.settle_waits D x ts)
      have HWl := Lib.hid (Nat.le_trans (Dp.waits_len D x) HL.out)
      generalize Dp.waits (Dp.without D [ts]) x = M at *
      generalize Dp.waits D x = Y at *
      go_wp2_with (first
        | (go_at_call 15
           refine HWt.out.mono ?_
           rintro e w6 ⟨v6, rfl, h6, b6⟩
           have HS6 := Lib.hid h6
           have HB6 := Lib.hid (HB.out.trans (b6.mono HB.out.size))
           obtain ⟨A6, c6, e6, _⟩ := h6.form (List.mem_cons_self ..)
           have e6 : v6 = .slice A6 Y.length c6 := e6
           subst e6
           clear h6 b6))
      clear HS HB HWt
      have hy60 := HWl.out
      go_loopw [11, 12] (fun r vk wr => ∃ (k : Nat) (X : List Int), k ≤ Y.length ∧ X.length ≤ k ∧ vk = .int .i64 (k : Int) ∧ Hid (X = (Y.take k).filter (fun y => decide (y ≠ ts ∧ x ≠ ts))) ∧ Hid (wr.ownsRow w6.heap.size 2 1 r X.length (numV X)) ∧ Hid (Below w6.heap.size w6 wr)) (fun _ vk _ => Y.length - (intOf vk).toNat)
      case atStart => exact ⟨0, [], by omega, by simp, rfl, Lib.hid rfl, Lib.hid (S.own_nil ..), Lib.hid (Below.refl _ _)⟩
      case round =>
        obtain ⟨k, X, hk, hXl, rfl, HX, HO, HB⟩ := hrel
        obtain ⟨Ar, cr, rfl⟩ := own_sliceN HO.out
        have HSk := Lib.hid (HS6.out.low HK.out HB.out)
        have z5 := HX5.out _ _ _ HSk.out (by simp)
        by_cases hkl : k < Y.length
        · have hkl' : (k : Int) < (Y.length : Int) := by omega
          have hk0 : (0 : Int) ≤ (k : Int) := by omega
          obtain ⟨a6, _, e6, x6⟩ := HSk.out.nth (List.mem_cons_self ..) k hkl
          cases e6
          have HT := Lib.hid (List.take_succ_eq_append_getElem hkl)
          generalize Y[k] = y at *
          by_cases h1 : y = ts
          · have d1 : (y != ts) = false := by simpa using h1
            have HN : Hid (X = (Y.take (k + 1)).filter (fun y => decide (y ≠ ts ∧ x ≠ ts))) := Lib.hid (by rw [HT.out, List.filter_append, ← HX.out]; simp [h1])
            clear h1
            go_wp2
            go_roundw
            case rel => exact ⟨k + 1, X, by omega, by omega, by go_num, HN, HO, HB⟩
            case measure => simp [intOf]; omega
          · have d1 : (y != ts) = true := by simpa using h1
            by_cases h2 : x = ts
            · have d2 : (x != ts) = false := by simpa using h2
              have HN : Hid (X = (Y.take (k + 1)).filter (fun y => decide (y ≠ ts ∧ x ≠ ts))) := Lib.hid (by rw [HT.out, List.filter_append, ← HX.out]; simp [h2])
              clear h1 h2
              go_wp2
              go_roundw
              case rel => exact ⟨k + 1, X, by omega, by omega, by go_num, HN, HO, HB⟩
              case measure => simp [intOf]; omega
            · have d2 : (x != ts) = true := by simpa using h2
              have HN : Hid (X ++ [y] = (Y.take (k + 1)).filter (fun y => decide (y ≠ ts ∧ x ≠ ts))) := Lib.hid (by rw [HT.out, List.filter_append, ← HX.out]; simp [h1, h2])
              clear h1 h2
              go_wp2_with (at_builtin; refine S.wpList_append_sg elN rfl _ _ rfl (base := w6.heap.size) (n := X.length) (m := 1) (xs := numV X) (cs := [.int .i64 y]) rfl rfl (HO.out.alloc _) (S.Sg.one wr 2 (.int .i64 y)) (by simp [Value.oneCell']) (by omega) (by omega) (Nat.le_trans HB.out.size (by simp)) ?_)
              intro v8 w8 hown8 hgrow8 _
              have hb8 := HB.out.trans (((Below.refl wr.heap.size wr).alloc (Nat.le_refl _) (.cells #[.int .i64 y] 2)).mono HB.out.size)
              have hb8 := hb8.trans (S.below_base (HO.out.alloc _) hb8.size hgrow8)
              have HB8 := Lib.hid hb8
              have HO8 : Hid (w8.ownsRow w6.heap.size 2 1 v8 (X ++ [y]).length (numV (X ++ [y]))) := Lib.hid (own_num hown8)
              clear hown8 hgrow8 hb8
              go_wp2_with fail
              go_roundw
              case rel => exact ⟨k + 1, X ++ [y], by omega, by simp; omega, by go_num, HN, HO8, HB8⟩
              case measure => simp [intOf]; omega
        · obtain rfl : k = Y.length := by omega
          have hkl' : ¬ (Y.length : Int) < (Y.length : Int) := by omega
          have HE : Hid (M = X) := Lib.hid (by
            have hx := HX.out
            rw [List.take_length] at hx
            rw [hx, HM.out])
          have HSw := Lib.hid (HSk.out.push (.slice Ar X.length cr, X) (S.Sg.of_own HO.out) (fun b q => q.2))
          have HWv := Lib.hid (HWv.out _ _ HSw.out)
          go_wp2_with (first
            | (go_at_call 15
               refine HWv.out.mono ?_
               rintro e w9 ⟨v9, rfl, h9, b9⟩
               have HSm := Lib.hid (h9.same HK.out (List.mem_cons_self ..) (List.mem_cons_of_mem _ (List.mem_cons_self ..)) (by rw [HE.out]; omega) (by omega))
               have HB9 := Lib.hid (HB6.out.trans ((HB.out.trans (b9.mono HB.out.size)).mono HB6.out.size))
               obtain ⟨A9, c9, e9, _⟩ := h9.form (List.mem_cons_self ..)
               have e9 : v9 = .slice A9 M.length c9 := e9
               subst e9
               rw [decide_eq_true HE.out] at HSm
               clear h9 b9)
            | (go_at_call 13
               refine HSm.out.mono ?_
               rintro e w10 ⟨rfl, h10, b10⟩
               have HS10 := Lib.hid (h10.less (R' := [(.slice (some a5) L.length c5, L)]) (by simp))
               have HB10 := Lib.hid (HB9.out.trans (b10.mono HB9.out.size))
               clear h10 b10))
          go_roundw
          case rel => exact ⟨i + 1, by omega, by go_num, HS10, HB10⟩
          case measure => simp [intOf]; omega
    · obtain rfl : i = L.length := by omega
      have hil' : ¬ (L.length : Int) < (L.length : Int) := by omega
      have HWt : Hid (Calls Try.prog 15 #[v, .int .i64 ts] _ fun e w' => ∃ A c, e = .returned (.slice A 0 c) ∧ Below w.heap.size w w') := Lib.hid (by
        refine (HS.out.waits HK.out (v := v) (d := Dp.without D [ts]) (by simp) (Nat.le_trans Dp.without_len (Nat.le_trans HL.out (by omega))) ts HTs.out).mono (fun e w' hh => ?_)
        obtain ⟨v', e, h1, h2⟩ := hh
        obtain ⟨A, c, e2, _⟩ := h1.form (List.mem_cons_self ..)
        have e2 : v' = .slice A (Dp.waits (Dp.without D [ts]) ts).length c := e2
        rw [Dp.settle_none] at e2
        subst e2
        exact ⟨A, c, e, HB.out.trans (h2.mono HB.out.size)⟩)
      go_wp2_with (first
        | (go_at_call 15; refine HWt.out.mono ?_; rintro e w9 ⟨A9, c9, rfl, b9⟩; have HB9 := Lib.hid b9; clear b9))
      go_ret
      exact ⟨rfl, HB9.out⟩
end
end Go.Proofs.Ythbnbifagenpiaa
