/-
  Walks of layer deps' laws: DepsBelow.
-/
import Derived.Test.YthbnbifagenpiaaDpDropW
import Derived.IntWalk
import Derived.StillTailTactics
namespace Go.Proofs.Ythbnbifagenpiaa.Dp
variable {d : List Wt}
theorem below_facts (h : Ok d) {x : Int} (hx : x ∈ all d) : (waits d x).length ≠ 0 ∧ ∀ y ∈ waits d x, 1 ≤ y ∧ y < x := by
  obtain ⟨m, hm⟩ := all_mem.1 hx
  refine ⟨fun e => ?_, fun y hy => h.low _ (waits_mem.1 hy)⟩
  have := waits_mem.2 hm
  rw [List.length_eq_zero_iff.1 e] at this
  cases this
theorem least_none (h : Ok d) (hl : 0 < (all d).length) {y : Int} (hy : y ∈ waits d (all d)[0]) : waits d y = [] := by
  refine (waits_rises _ _).ext List.Pairwise.nil (fun n => ⟨fun hn => ?_, fun hn => by cases hn⟩)
  have h1 := (h.low _ (waits_mem.1 hy)).2
  have h2 : y ∈ all d := all_mem.2 ⟨n, waits_mem.1 hn⟩
  obtain ⟨j, hj, e⟩ := List.getElem_of_mem h2
  rcases Nat.eq_zero_or_pos j with rfl | hp
  · rw [e] at h1; exact absurd h1 (Int.lt_irrefl _)
  · have := List.pairwise_iff_getElem.1 (all_rises d) 0 j hl hj hp
    rw [e] at this
    dsimp only at h1
    omega
theorem rises_lt {l : List Int} (h : T.Rises l) {j : Nat} (h0 : 0 < j) (hj : j < l.length) : l[j - 1] < l[j] := List.pairwise_iff_getElem.1 h (j - 1) j (by omega) hj (by omega)
end Go.Proofs.Ythbnbifagenpiaa.Dp
namespace Go.Proofs.Ythbnbifagenpiaa
open Go.RowKit
theorem drewN_low (w : World) (n : Nat) : Below w.heap.size w (w.drewN n) := ⟨rfl, rfl, rfl, Nat.le_refl _, fun _ _ => rfl⟩
section
variable {H : World → (Nat → Prop) → Value → List Dp.Wt → Prop}

/-- a row's cell, at whatever world -/
theorem Sees.at {wr : World} {O : List (Value × List Dp.Wt)} {R : List Row12} {a : Addr} {c : Nat} {l : List Int} (i : Nat) (hi : i < l.length) (h : Sees H wr O R) (hr : (.slice (some a) l.length c, l) ∈ R) : wr.cell? (a.add i) = some (.int .i64 l[i]) := by
  obtain ⟨a', c', e', x'⟩ := h.nth hr i hi
  cases e'
  exact x'

attribute [local irreducible] Go.wpStill
set_option maxRecDepth 100000 in
set_option maxHeartbeats 4000000 in
theorem DepsBelow_walk (K : DepsOk H) (w : World) (vd : Value) (ld : List Dd12) (G0 : Nat → Prop) (hD : Dds12 w G0 vd ld) (hG0 : ∀ b, G0 b → b < w.heap.size) :
    Calls Try.prog 4 #[vd] w fun e w' => e = .returned (.bool true) ∧ Below w.heap.size w w' := by
  have HK := Lib.hid K
  have HAw := Lib.hid (awake12_any K w)
  have HR := Lib.hid (run12_at K hD hG0)
  obtain ⟨Ad, capd, rfl, hcd⟩ := hD.form
  clear hD hcd
  generalize ld.length = nd at *
  generalize Dp.runD (ld.take 60) = D at *
  go_enter Try.func4, Try.ntmps4
  go_wp2_with (first
    | (go_at_call 9; refine HAw.out.mono ?_; rintro e w1 ⟨rfl, b1⟩; have HB1 := Lib.hid b1; clear b1)
    | (go_at_call 17
       refine (HR.out _ HB1.out).mono ?_
       rintro e w2 ⟨v, rfl, h2, hl2, b2⟩
       have HL := Lib.hid hl2
       have HB2 := Lib.hid (HB1.out.trans (b2.mono HB1.out.size))
       have HS2 : Hid (Sees H w2 [(v, D)] []) := Lib.hid (by
         obtain ⟨F, q1, _⟩ := h2
         exact ⟨fun o q => by rw [List.mem_singleton] at q; subst q; exact ⟨F, q1⟩, fun r q => by cases q⟩)
       have HOk : Hid (Dp.Ok D ∧ ∀ p ∈ D, p.1 ≤ 9223372036854775807) := Lib.hid (by
         obtain ⟨F, q1, _⟩ := h2
         exact ⟨HK.out.ok q1, HK.out.rng q1⟩)
       clear h2 hl2 b2)
    | (go_at_call 14
       refine (HS2.out.all HK.out (v := v) (d := D) (by simp) (Nat.le_trans HL.out (by omega))).mono ?_
       rintro e w5 ⟨v5, rfl, h5, b5⟩
       have HS5 := Lib.hid h5
       have HB5 := Lib.hid (HB2.out.trans (b5.mono HB2.out.size))
       obtain ⟨A5, c5, e5, _⟩ := h5.form (List.mem_cons_self ..)
       have e5 : v5 = .slice A5 (Dp.all D).length c5 := e5
       subst e5
       clear h5 b5))
  have HLa : Hid ((Dp.all D).length ≤ 60) := Lib.hid (Nat.le_trans (Dp.all_len D) HL.out)
  have HLi : Hid (∀ x ∈ Dp.all D, I64 x) := Lib.hid (fun x hx => Dp.all_i64 HOk.out.1 HOk.out.2 hx)
  have HWi : Hid (∀ x, ∀ y ∈ Dp.waits D x, I64 y) := Lib.hid (fun x y hy => (HOk.out.1.i64 HOk.out.2 (Dp.waits_mem.1 hy)).2)
  have HLr : Hid (T.Rises (Dp.all D)) := Lib.hid (Dp.all_rises D)
  have HBf : Hid (∀ x ∈ Dp.all D, (Dp.waits D x).length ≠ 0 ∧ ∀ y ∈ Dp.waits D x, 1 ≤ y ∧ y < x) := Lib.hid (fun x hx => Dp.below_facts HOk.out.1 hx)
  have HLn : Hid (∀ (hl : 0 < (Dp.all D).length), ∀ y ∈ Dp.waits D (Dp.all D)[0], Dp.waits D y = []) := Lib.hid (fun hl y hy => Dp.least_none HOk.out.1 hl hy)
  have HWl := Lib.hid (fun x => Nat.le_trans (Dp.waits_len D x) HL.out)
  have HWr := Lib.hid (fun x => Dp.waits_rises D x)
  clear HS2 HB2 HOk
  generalize Dp.all D = L at *
  have hl60 := HLa.out
  go_loopw [6] (fun vi wr => ∃ i : Nat, i ≤ L.length ∧ vi = .int .i64 (i : Int) ∧ Hid (Sees H wr [(v, D)] [(.slice A5 L.length c5, L)]) ∧ Hid (Below w.heap.size w wr)) (fun vi _ => L.length - (intOf vi).toNat)
  case atStart => exact ⟨0, by omega, rfl, HS5, HB5⟩
  case round =>
    clear HS5 HB5
    obtain ⟨i, hi, rfl, HS, HB⟩ := hrel
    by_cases hil : i < L.length
    · have hil' : (i : Int) < (L.length : Int) := by omega
      have hi0 : (0 : Int) ≤ (i : Int) := by omega
      obtain ⟨a5, _, e5, x5⟩ := HS.out.nth (List.mem_cons_self ..) i hil
      cases e5
      have HIx := Lib.hid (HLi.out _ (List.getElem_mem hil))
      have HX5 : Hid (∀ W R, Sees H W [(v, D)] R → (.slice (some a5) L.length c5, L) ∈ R → W.cell? (a5.add i) = some (.int .i64 L[i])) := Lib.hid (fun W R h hr => h.at i hil hr)
      have HZero : Hid (i = 0 → ∀ y ∈ Dp.waits D L[i], Dp.waits D y = []) := Lib.hid (fun e => by subst e; exact HLn.out hil)
      have HFx := Lib.hid (HBf.out _ (List.getElem_mem hil))
      have HP5 : Hid (0 < i → ∃ x', x' < L[i] ∧ ∀ W R, Sees H W [(v, D)] R → (.slice (some a5) L.length c5, L) ∈ R → W.cell? (a5.add (i - 1)) = some (.int .i64 x')) := Lib.hid (fun h0 => ⟨L[i - 1], Dp.rises_lt HLr.out h0 hil, fun W R h hr => h.at (i - 1) (by omega) hr⟩)
      generalize L[i] = x at *
      have HWt := Lib.hid (HS.out.waits HK.out (v := v) (d := D) (by simp) (Nat.le_trans HL.out (by omega)) x HIx.out)
      have HYl := Lib.hid (HWl.out x)
      have HYr := Lib.hid (HWr.out x)
      have HYi := Lib.hid (HWi.out x)
      generalize Dp.waits D x = Y at *
      have hy0 : ¬ (Y.length : Int) = 0 := by have := HFx.out.1; omega
      have hy60 := HYl.out
      have hyb : ((Y.length : Int) == 0) = false := by simpa using hy0
      go_wp2_with (first
        | (go_at_call 15
           refine HWt.out.mono ?_
           rintro e w7 ⟨v7, rfl, h7, b7⟩
           have HS7 := Lib.hid h7
           have HB7 := Lib.hid (HB.out.trans (b7.mono HB.out.size))
           obtain ⟨A7, c7, e7, _⟩ := h7.form (List.mem_cons_self ..)
           have e7 : v7 = .slice A7 Y.length c7 := e7
           subst e7
           clear h7 b7))
      clear HS HB HWt
      have z5 := HX5.out _ _ HS7.out (by simp)
      by_cases hz : i = 0
      · subst hz
        go_quiet (fail)
        rename_i nq
        have HSq := Lib.hid (HS7.out.low HK.out (drewN_low w7 nq))
        have HBq := Lib.hid (HB7.out.trans ((drewN_low w7 nq).mono HB7.out.size))
        clear z5 HS7 HB7
        generalize w7.drewN nq = wq at *
        go_wp2_with fail
        go_loopw [8] (fun vk wr => ∃ k : Nat, k ≤ Y.length ∧ vk = .int .i64 (k : Int) ∧ Hid (Sees H wr [(v, D)] [(.slice A7 Y.length c7, Y), (.slice (some a5) L.length c5, L)]) ∧ Hid (Below w.heap.size w wr)) (fun vk _ => Y.length - (intOf vk).toNat)
        case atStart => exact ⟨0, by omega, rfl, HSq, HBq⟩
        case round =>
          clear HSq HBq
          obtain ⟨k, hk, rfl, HSk, HBk⟩ := hrel
          by_cases hkl : k < Y.length
          · have hkl' : (k : Int) < (Y.length : Int) := by omega
            have hk0 : (0 : Int) ≤ (k : Int) := by omega
            obtain ⟨a7, _, e7, z7⟩ := HSk.out.nth (List.mem_cons_self ..) k hkl
            cases e7
            have hyx := HFx.out.2 _ (List.getElem_mem hkl)
            have HYk := Lib.hid (List.getElem_mem hkl)
            have HX7 : Hid (∀ W R, Sees H W [(v, D)] R → (.slice (some a7) Y.length c7, Y) ∈ R → W.cell? (a7.add k) = some (.int .i64 Y[k])) := Lib.hid (fun W R h hr => h.at k hkl hr)
            have HP7 : Hid (0 < k → ∃ y', y' < Y[k] ∧ ∀ W R, Sees H W [(v, D)] R → (.slice (some a7) Y.length c7, Y) ∈ R → W.cell? (a7.add (k - 1)) = some (.int .i64 y')) := Lib.hid (fun h0 => ⟨Y[k - 1], Dp.rises_lt HYr.out h0 hkl, fun W R h hr => h.at (k - 1) (by omega) hr⟩)
            generalize Y[k] = y at *
            have d2 : decide (y < 1) = false := decide_eq_false (by omega)
            have d3 : decide (x ≤ y) = false := decide_eq_false (by omega)
            have y5 := HX5.out _ _ HSk.out (by simp)
            rw [show a5.add 0 = a5 by simp [Addr.add]] at y5
            have HNone := Lib.hid (HZero.out (by trivial) y HYk.out)
            have HSd := Lib.hid (HSk.out.low HK.out (Below.drew (Below.refl wr.heap.size wr)))
            have HBd := Lib.hid HBk.out.drew
            have HWy := Lib.hid (HSd.out.waits HK.out (v := v) (d := D) (by simp) (Nat.le_trans HL.out (by omega)) y (HYi.out y HYk.out))
            rw [HNone.out] at HWy
            by_cases hkz : k = 0
            · go_wp2_with fail
              have hdk : decide (0 < k) = false := decide_eq_false (by omega)
              clear hkz
              have HX : Hid (∀ W R, Sees H W [(v, D)] R → (.slice (some a7) Y.length c7, Y) ∈ R → (.slice (some a5) L.length c5, L) ∈ R → W.cell? (a7.add k) = some (.int .i64 y) ∧ W.cell? a5 = some (.int .i64 x)) := Lib.hid (fun W R h h1 h2 => by
                have q1 := HX7.out W R h h1
                have q2 := HX5.out W R h h2
                rw [show a5.add 0 = a5 by simp [Addr.add]] at q2
                exact ⟨q1, q2⟩)
              obtain ⟨s1, s2⟩ := HX.out _ _ HSd.out (by simp) (by simp)
              go_wp2_with fail
              refine wp_region_still_tail 41 (by kernel_rfl) (by kernel_rfl) ?_
              simp only [List.take_succ_cons, List.take_zero, List.drop_succ_cons, List.drop_zero]
              repeat still_step
              refine wpStill_nil ?_
              change wpList _ _ _ _ _ wr.drew
              go_wp2_with (first
                | (go_at_call 15
                   refine HWy.out.mono ?_
                   rintro e w9 ⟨v9, rfl, h9, b9⟩
                   have HS9 := Lib.hid h9.tail
                   have HB9 := Lib.hid (HBd.out.trans (b9.mono HBd.out.size))
                   obtain ⟨A9, c9, e9, _⟩ := h9.form (List.mem_cons_self ..)
                   have e9 : v9 = .slice A9 0 c9 := e9
                   subst e9
                   clear h9 b9))
              go_roundw
              case rel => exact ⟨k + 1, by omega, by go_num, HS9, HB9⟩
              case measure => simp [intOf]; omega
            · go_wp2_with fail
              obtain ⟨y', hly, HXk⟩ := HP7.out (by omega)
              have zk := HXk _ _ HSk.out (by simp)
              have HXk := Lib.hid HXk
              have HX : Hid (∀ W R, Sees H W [(v, D)] R → (.slice (some a7) Y.length c7, Y) ∈ R → (.slice (some a5) L.length c5, L) ∈ R → W.cell? (a7.add k) = some (.int .i64 y) ∧ W.cell? a5 = some (.int .i64 x) ∧ W.cell? (a7.add (k - 1)) = some (.int .i64 y')) := Lib.hid (fun W R h h1 h2 => by
                have q2 := HX5.out W R h h2
                rw [show a5.add 0 = a5 by simp [Addr.add]] at q2
                exact ⟨HX7.out W R h h1, q2, HXk.out W R h h1⟩)
              obtain ⟨s1, s2, s3⟩ := HX.out _ _ HSd.out (by simp) (by simp)
              have d4 : decide (y ≤ y') = false := decide_eq_false (by omega)
              have hk1 : (0 : Int) < (k : Int) := by omega
              have hkn : 0 < k := by omega
              have hdk : decide (0 < k) = true := decide_eq_true hkn
              have hb1 : (0 : Int) ≤ (k : Int) - 1 := by omega
              have hb2 : (k : Int) - 1 < (Y.length : Int) := by omega
              have hn1 : ((k : Int) - 1).toNat = k - 1 := by omega
              have hw1 : IntKind.i64.wrap ((k : Int) - 1) = (k : Int) - 1 := IntWalk.i64_in _ (by omega)
              have hq1 : (1 : Int) ≤ (k : Int) := by omega
              have hq2 : 1 ≤ k := by omega
              have hq3 : (k : Int) ≤ (Y.length : Int) := by omega
              refine wp_region_still_tail 41 (by kernel_rfl) (by kernel_rfl) ?_
              simp only [List.take_succ_cons, List.take_zero, List.drop_succ_cons, List.drop_zero]
              repeat still_step
              refine wpStill_nil ?_
              change wpList _ _ _ _ _ wr.drew
              go_wp2_with (first
                | (go_at_call 15
                   refine HWy.out.mono ?_
                   rintro e w9 ⟨v9, rfl, h9, b9⟩
                   have HS9 := Lib.hid h9.tail
                   have HB9 := Lib.hid (HBd.out.trans (b9.mono HBd.out.size))
                   obtain ⟨A9, c9, e9, _⟩ := h9.form (List.mem_cons_self ..)
                   have e9 : v9 = .slice A9 0 c9 := e9
                   subst e9
                   clear h9 b9))
              clear hw1 hn1 hb1 hb2
              go_roundw
              case rel => exact ⟨k + 1, by omega, by go_num, HS9, HB9⟩
              case measure => simp [intOf]; omega
          · obtain rfl : k = Y.length := by omega
            have hkl' : ¬ (Y.length : Int) < (Y.length : Int) := by omega
            go_wp2_with fail
            go_roundw
            case rel => exact ⟨0 + 1, by omega, by go_num, Lib.hid HSk.out.tail, HBk⟩
            case measure => simp [intOf]; omega
      · obtain ⟨x', hlt, HXp⟩ := HP5.out (by omega)
        have zp := HXp _ _ HS7.out (by simp)
        have HXp := Lib.hid HXp
        have d1 : decide (x ≤ x') = false := decide_eq_false (by omega)
        have hi1 : (0 : Int) < (i : Int) := by omega
        have hin : 0 < i := by omega
        have hdn : decide (0 < i) = true := decide_eq_true hin
        have hb1 : (0 : Int) ≤ (i : Int) - 1 := by omega
        have hb2 : (i : Int) - 1 < (L.length : Int) := by omega
        have hn1 : ((i : Int) - 1).toNat = i - 1 := by omega
        have hw1 : IntKind.i64.wrap ((i : Int) - 1) = (i : Int) - 1 := IntWalk.i64_in _ (by omega)
        go_quiet (fail)
        rename_i nq
        clear hw1 hn1 hb1 hb2
        have HSq := Lib.hid (HS7.out.low HK.out (drewN_low w7 nq))
        have HBq := Lib.hid (HB7.out.trans ((drewN_low w7 nq).mono HB7.out.size))
        clear z5 zp HS7 HB7
        generalize w7.drewN nq = wq at *
        go_wp2_with fail
        go_loopw [8] (fun vk wr => ∃ k : Nat, k ≤ Y.length ∧ vk = .int .i64 (k : Int) ∧ Hid (Sees H wr [(v, D)] [(.slice A7 Y.length c7, Y), (.slice (some a5) L.length c5, L)]) ∧ Hid (Below w.heap.size w wr)) (fun vk _ => Y.length - (intOf vk).toNat)
        case atStart => exact ⟨0, by omega, rfl, HSq, HBq⟩
        case round =>
          clear HSq HBq
          obtain ⟨k, hk, rfl, HSk, HBk⟩ := hrel
          by_cases hkl : k < Y.length
          · have hkl' : (k : Int) < (Y.length : Int) := by omega
            have hk0 : (0 : Int) ≤ (k : Int) := by omega
            obtain ⟨a7, _, e7, z7⟩ := HSk.out.nth (List.mem_cons_self ..) k hkl
            cases e7
            have hyx := HFx.out.2 _ (List.getElem_mem hkl)
            have HYk := Lib.hid (List.getElem_mem hkl)
            have HX7 : Hid (∀ W R, Sees H W [(v, D)] R → (.slice (some a7) Y.length c7, Y) ∈ R → W.cell? (a7.add k) = some (.int .i64 Y[k])) := Lib.hid (fun W R h hr => h.at k hkl hr)
            have HP7 : Hid (0 < k → ∃ y', y' < Y[k] ∧ ∀ W R, Sees H W [(v, D)] R → (.slice (some a7) Y.length c7, Y) ∈ R → W.cell? (a7.add (k - 1)) = some (.int .i64 y')) := Lib.hid (fun h0 => ⟨Y[k - 1], Dp.rises_lt HYr.out h0 hkl, fun W R h hr => h.at (k - 1) (by omega) hr⟩)
            generalize Y[k] = y at *
            have d2 : decide (y < 1) = false := decide_eq_false (by omega)
            have d3 : decide (x ≤ y) = false := decide_eq_false (by omega)
            have y5 := HX5.out _ _ HSk.out (by simp)
            have hib : ((i : Int) == 0) = false := by simp; omega
            have hib2 : decide (i = 0) = false := decide_eq_false hz
            by_cases hkz : k = 0
            · go_wp2_with fail
              have hdk : decide (0 < k) = false := decide_eq_false (by omega)
              clear hkz
              go_quiet (fail)
              have HS9 := Lib.hid (HSk.out.low HK.out (drewN_low wr nq))
              have HB9 := Lib.hid (HBk.out.trans ((drewN_low wr nq).mono HBk.out.size))
              go_wp2_with fail
              go_roundw
              case rel => exact ⟨k + 1, by omega, by go_num, HS9, HB9⟩
              case measure => simp [intOf]; omega
            · go_wp2_with fail
              obtain ⟨y', hly, HXk⟩ := HP7.out (by omega)
              have zk := HXk _ _ HSk.out (by simp)
              have HXk := Lib.hid HXk
              have d4 : decide (y ≤ y') = false := decide_eq_false (by omega)
              have hk1 : (0 : Int) < (k : Int) := by omega
              have hkn : 0 < k := by omega
              have hdk : decide (0 < k) = true := decide_eq_true hkn
              have hb1 : (0 : Int) ≤ (k : Int) - 1 := by omega
              have hb2 : (k : Int) - 1 < (Y.length : Int) := by omega
              have hn1 : ((k : Int) - 1).toNat = k - 1 := by omega
              have hw1 : IntKind.i64.wrap ((k : Int) - 1) = (k : Int) - 1 := IntWalk.i64_in _ (by omega)
              go_quiet (fail)
              clear hw1 hn1 hb1 hb2
              have HS9 := Lib.hid (HSk.out.low HK.out (drewN_low wr nq))
              have HB9 := Lib.hid (HBk.out.trans ((drewN_low wr nq).mono HBk.out.size))
              go_wp2_with fail
              go_roundw
              case rel => exact ⟨k + 1, by omega, by go_num, HS9, HB9⟩
              case measure => simp [intOf]; omega
          · obtain rfl : k = Y.length := by omega
            have hkl' : ¬ (Y.length : Int) < (Y.length : Int) := by omega
            go_wp2_with fail
            go_roundw
            case rel => exact ⟨i + 1, by omega, by go_num, Lib.hid HSk.out.tail, HBk⟩
            case measure => simp [intOf]; omega
    · obtain rfl : i = L.length := by omega
      have hil' : ¬ (L.length : Int) < (L.length : Int) := by omega
      go_wp2
      go_ret
      exact ⟨rfl, HB.out⟩
end
end Go.Proofs.Ythbnbifagenpiaa
