/-
  Walks of layer deps' laws: DepsDrop.
-/
import Derived.Test.YthbnbifagenpiaaDpSettleW
namespace Go.Proofs.Ythbnbifagenpiaa.Dp
variable {d : List Wt} {ts x : Int}
theorem drop_any (hts : ¬ ts < 1) (hx : x ≠ ts) : (waits d x).any (has (dropL d ts)) = has (dropL d ts) x := by
  rw [Bool.eq_iff_iff, List.any_eq_true]
  unfold has
  simp only [decide_eq_true_eq]
  constructor
  · rintro ⟨n, h1, h2⟩
    exact drop_closed hts (waits_mem.1 h1) h2
  · intro h
    have h0 := drop_first (d := d) hts
    have := drop_only (d := d) (ts := ts) (C := fun x => x ∈ dropL d ts ∧ (x = ts ∨ ∃ n, (x, n) ∈ d ∧ n ∈ dropL d ts)) (fun p hp hc => ⟨drop_closed hts hp hc.1, Or.inr ⟨p.2, hp, hc.1⟩⟩) ⟨h0, Or.inl rfl⟩ x h
    rcases this.2 with e | ⟨n, h1, h2⟩
    · exact absurd e hx
    · exact ⟨n, waits_mem.2 h1, h2⟩
theorem drop_waits (hts : ¬ ts < 1) (hx : has (dropL d ts) x = false) : waits (dropD d ts) x = waits d x := by
  have hx : x ∉ dropL d ts := by unfold has at hx; simpa using hx
  refine (waits_rises _ _).ext (waits_rises _ _) (fun n => ?_)
  unfold dropD
  rw [if_neg hts, waits_mem, waits_mem, without_mem]
  exact ⟨fun h => h.1, fun h => ⟨h, hx, fun q => hx (drop_closed hts h q)⟩⟩
theorem drop_none (hts : ¬ ts < 1) (hx : x ∈ dropL d ts) : waits (dropD d ts) x = [] := by
  refine (waits_rises _ _).ext List.Pairwise.nil (fun n => ?_)
  unfold dropD
  rw [if_neg hts, waits_mem, without_mem]
  simp [hx]
theorem drop_i64 (h : Ok d) (hr : ∀ p ∈ d, p.1 ≤ 9223372036854775807) (ht : I64 ts) (hx : x ∈ dropL d ts) : I64 x :=
  drop_only (C := I64) (fun _ hp _ => (h.i64 hr hp).1) ht x hx
end Go.Proofs.Ythbnbifagenpiaa.Dp
namespace Go.Proofs.Ythbnbifagenpiaa
open Go.RowKit
section
variable {H : World → (Nat → Prop) → Value → List Dp.Wt → Prop}

theorem Sees.inn (K : DepsOk H) {wr : World} {O : List (Value × List Dp.Wt)} {R : List Row12} {va : Value} {l : List Int} (h : Sees H wr O R) (ha : (va, l) ∈ R) (hl : l.length ≤ 1000) (n : Int) :
    Calls Try.prog 19 #[va, .int .i64 n] wr fun e w' => e = .returned (.bool (Dp.has l n)) ∧ Sees H w' O R ∧ Below wr.heap.size wr w' := by
  obtain ⟨G, hs, hG⟩ := h.row _ ha
  exact (lin12_any hs hG (Nat.le_trans hl (by omega)) n).mono (fun e w' hh => ⟨hh.1, h.low K hh.2, hh.2⟩)

theorem Sees.tail {wr : World} {O : List (Value × List Dp.Wt)} {r : Row12} {R : List Row12} (h : Sees H wr O (r :: R)) : Sees H wr O R := h.less (fun _ q => List.mem_cons_of_mem _ q)

/-- what is told of who is dropped -/
theorem drop_facts (K : DepsOk H) {w w' : World} {v : Value} {D : List Dp.Wt} {ts : Int} (h : Ob H w w' v D) (hts : ¬ ts < 1) (ht : I64 ts) (hl : D.length ≤ 60) :
    Hid ((Dp.dropL D ts).length ≤ 61) ∧ Hid (Dp.has (Dp.dropL D ts) ts = true) ∧ Hid (∀ x ∈ Dp.dropL D ts, I64 x) ∧ Hid (∀ x ∈ Dp.all D, I64 x) ∧
    Hid (∀ x, x ≠ ts → (Dp.waits D x).any (Dp.has (Dp.dropL D ts)) = Dp.has (Dp.dropL D ts) x) ∧ Hid (∀ x, Dp.has (Dp.dropL D ts) x = false → Dp.waits (Dp.dropD D ts) x = Dp.waits D x) ∧
    Hid (∀ x ∈ Dp.dropL D ts, Dp.waits (Dp.dropD D ts) x = []) ∧ Hid ((Dp.dropD D ts).length ≤ 200) := by
  obtain ⟨F, q1, _⟩ := h
  have ho := K.ok q1
  have hr := K.rng q1
  exact ⟨Lib.hid (Nat.le_trans Dp.drop_len (Nat.succ_le_succ hl)), Lib.hid (decide_eq_true (Dp.drop_first hts)), Lib.hid (fun x hx => Dp.drop_i64 ho hr ht hx), Lib.hid (fun x hx => Dp.all_i64 ho hr hx),
    Lib.hid (fun x hx => Dp.drop_any hts hx), Lib.hid (fun x hx => Dp.drop_waits hts hx), Lib.hid (fun x hx => Dp.drop_none hts hx), Lib.hid (Nat.le_trans Dp.dropD_len (Nat.le_trans hl (by omega)))⟩

set_option maxRecDepth 100000 in
set_option maxHeartbeats 4000000 in
theorem DepsDrop_low (K : DepsOk H) (w : World) (vd : Value) (ld : List Dd12) (ts : Int) (hts : I64 ts) (h1 : ts < 1) (G0 : Nat → Prop) (hD : Dds12 w G0 vd ld) (hG0 : ∀ b, G0 b → b < w.heap.size) :
    Calls Try.prog 5 #[vd, .int .i64 ts] w fun e w' => e = .returned (.bool true) ∧ Below w.heap.size w w' := by
  have HAw := Lib.hid (awake12_any K w)
  have HR := Lib.hid (run12_at K hD hG0)
  have HDr : Hid (∀ W v, Ob H W W v (Dp.runD (ld.take 60)) → True) := Lib.hid (fun _ _ _ => trivial)
  have HD2 : Hid (∀ W W' v, Ob H W W' v (Dp.runD (ld.take 60)) → (Dp.runD (ld.take 60)).length ≤ 60 → Below W.heap.size W W' → Calls Try.prog 18 #[v, .int .i64 ts] W' fun e w' => ∃ A c, e = .returned (.slice A 0 c) ∧ Below W.heap.size W w') := Lib.hid (fun W W' v ho hl hb => by
    obtain ⟨F, g1, g2⟩ := ho
    refine (K.drop g1 (by omega) ts hts).mono (fun e w' hh => ?_)
    obtain ⟨vg, F', T, e, q1, q3, _, q5, q2⟩ := hh
    rw [show Dp.dropL (Dp.runD (ld.take 60)) ts = [] by unfold Dp.dropL; rw [if_pos h1]] at q3
    obtain ⟨A, c, rfl, _⟩ := num_form q3
    exact ⟨A, c, e, hb.trans (q2.below hb.size g2)⟩)
  obtain ⟨Ad, capd, rfl, hcd⟩ := hD.form
  clear hD hcd hts HDr
  generalize ld.length = nd at *
  generalize Dp.runD (ld.take 60) = D at *
  go_enter Try.func5, Try.ntmps5
  go_wp2_with (first
    | (go_at_call 9; refine HAw.out.mono ?_; rintro e w1 ⟨rfl, b1⟩; have HB1 := Lib.hid b1; clear b1)
    | (go_at_call 17; refine (HR.out _ HB1.out).mono ?_; rintro e w2 ⟨v, rfl, h2, hl2, b2⟩; have HC := Lib.hid (HD2.out _ _ _ h2 hl2 b2); clear h2 hl2 b2)
    | (go_at_call 18; refine HC.out.mono ?_; rintro e w3 ⟨A3, c3, rfl, b3⟩; have HB3 := Lib.hid (HB1.out.trans (b3.mono HB1.out.size)); clear b3))
  go_ret
  exact ⟨rfl, HB3.out⟩

set_option maxRecDepth 100000 in
set_option maxHeartbeats 4000000 in
theorem DepsDrop_high (K : DepsOk H) (w : World) (vd : Value) (ld : List Dd12) (ts : Int) (hts : I64 ts) (h1 : ¬ ts < 1) (G0 : Nat → Prop) (hD : Dds12 w G0 vd ld) (hG0 : ∀ b, G0 b → b < w.heap.size) :
    Calls Try.prog 5 #[vd, .int .i64 ts] w fun e w' => e = .returned (.bool true) ∧ Below w.heap.size w w' := by
  have HK := Lib.hid K
  have HTs := Lib.hid hts
  have HAw := Lib.hid (awake12_any K w)
  have HR := Lib.hid (run12_at K hD hG0)
  have HNot := Lib.hid h1
  obtain ⟨Ad, capd, rfl, hcd⟩ := hD.form
  clear hD hcd hts
  generalize ld.length = nd at *
  generalize Dp.runD (ld.take 60) = D at *
  go_enter Try.func5, Try.ntmps5
  go_wp2_with (first
    | (go_at_call 9; refine HAw.out.mono ?_; rintro e w1 ⟨rfl, b1⟩; have HB1 := Lib.hid b1; clear b1)
    | (go_at_call 17; refine (HR.out _ HB1.out).mono ?_; rintro e w2 ⟨v, rfl, h2, hl2, b2⟩; have HO2 := Lib.hid h2; have HL := Lib.hid hl2; have HB2 := Lib.hid (HB1.out.trans (b2.mono HB1.out.size)); have HB12 := Lib.hid b2.size; clear h2 hl2 b2)
    | (go_at_call 17; refine (HR.out _ HB2.out).mono ?_; rintro e w3 ⟨v', rfl, h3, _, b3⟩; have HO3 := Lib.hid h3; have HB23 := Lib.hid b3; have HB3 := Lib.hid (HB2.out.trans (b3.mono HB2.out.size)); clear h3 b3)
    | (go_at_call 18
       refine (two_drop HK.out HO2.out HO3.out HB12.out HB23.out (Nat.le_trans HL.out (by omega)) ts HTs.out).mono ?_
       rintro e w4 ⟨v4, rfl, h4, b4⟩
       have HS4 := Lib.hid h4
       have HB4 := Lib.hid (HB3.out.trans (b4.mono HB1.out.size))
       obtain ⟨A4, c4, e4, _⟩ := h4.form (List.mem_cons_self ..)
       have e4 : v4 = .slice A4 (Dp.dropL D ts).length c4 := e4
       subst e4
       obtain ⟨HGl, HHt, HGi, HLi, HAny, HWs, HWn, HDl⟩ := drop_facts HK.out HO3.out (by have := HNot.out; omega) HTs.out HL.out
       clear h4 b4 HO2 HO3)
    | (go_at_call 14
       refine (HS4.out.all HK.out (v := v') (d := D) (by simp) (Nat.le_trans HL.out (by omega))).mono ?_
       rintro e w5 ⟨v5, rfl, h5, b5⟩
       have HB5 := Lib.hid (HB4.out.trans (b5.mono HB4.out.size))
       obtain ⟨A5, c5, e5, _⟩ := h5.form (List.mem_cons_self ..)
       have e5 : v5 = .slice A5 (Dp.all D).length c5 := e5
       subst e5
       have HIn := Lib.hid (h5.inn HK.out (List.mem_cons_of_mem _ (List.mem_cons_self ..)) (Nat.le_trans HGl.out (by omega)) ts)
       rw [HHt.out] at HIn
       clear h5 b5)
    | (go_at_call 19
       refine HIn.out.mono ?_
       rintro e w6 ⟨rfl, h6, b6⟩
       have HS6 := Lib.hid h6
       have HB6 := Lib.hid (HB5.out.trans (b6.mono HB5.out.size))
       clear h6 b6))
  have HLa : Hid ((Dp.all D).length ≤ 60) := Lib.hid (Nat.le_trans (Dp.all_len D) HL.out)
  have HWl := Lib.hid (fun x => Nat.le_trans (Dp.waits_len D x) HL.out)
  clear HS4 HB4 HB5 HHt
  generalize Dp.all D = L at *
  generalize Dp.dropL D ts = G at *
  generalize Dp.dropD D ts = E at *
  have hl60 := HLa.out
  have hg60 := HGl.out
  go_loopw [10] (fun vi wr => ∃ i : Nat, i ≤ L.length ∧ vi = .int .i64 (i : Int) ∧ Hid (Sees H wr [(v, E), (v', D)] [(.slice A5 L.length c5, L), (.slice A4 G.length c4, G)]) ∧ Hid (Below w.heap.size w wr)) (fun vi _ => L.length - (intOf vi).toNat)
  case atStart => exact ⟨0, by omega, rfl, HS6, HB6⟩
  case round =>
    clear HS6 HB6
    obtain ⟨i, hi, rfl, HS, HB⟩ := hrel
    by_cases hil : i < L.length
    · have hil' : (i : Int) < (L.length : Int) := by omega
      have hi0 : (0 : Int) ≤ (i : Int) := by omega
      obtain ⟨a5, _, e5, x5⟩ := HS.out.nth (List.mem_cons_self ..) i hil
      cases e5
      have HIx := Lib.hid (HLi.out _ (List.getElem_mem hil))
      have HX5 : Hid (∀ W O R, Sees H W O R → (.slice (some a5) L.length c5, L) ∈ R → W.cell? (a5.add i) = some (.int .i64 L[i])) := Lib.hid (fun W O R h hr => by
        obtain ⟨a', c', e', x'⟩ := h.nth hr i hil
        cases e'
        exact x')
      generalize L[i] = x at *
      have HWt := Lib.hid (HS.out.waits HK.out (v := v') (d := D) (by simp) (Nat.le_trans HL.out (by omega)) x HIx.out)
      have HWv : Hid (∀ W R, Sees H W [(v, E), (v', D)] R → Calls Try.prog 15 #[v, .int .i64 x] W fun e w' => ∃ v2, e = .returned v2 ∧ Sees H w' [(v, E), (v', D)] ((v2, Dp.waits E x) :: R) ∧ Below W.heap.size W w') := Lib.hid (fun W R h => h.waits HK.out (by simp) HDl.out x HIx.out)
      have HA := Lib.hid (HAny.out x)
      have HM := Lib.hid (HWs.out x)
      have HYl := Lib.hid (HWl.out x)
      generalize Dp.waits E x = M at *
      generalize Dp.waits D x = Y at *
      go_wp2_with (first
        | (go_at_call 15
           refine HWt.out.mono ?_
           rintro e w7 ⟨v7, rfl, h7, b7⟩
           have HS7 := Lib.hid h7
           have HB7 := Lib.hid (HB.out.trans (b7.mono HB.out.size))
           obtain ⟨A7, c7, e7, _⟩ := h7.form (List.mem_cons_self ..)
           have e7 : v7 = .slice A7 Y.length c7 := e7
           subst e7
           clear h7 b7))
      clear HS HB HWt
      have hy60 := HYl.out
      go_loopw [12, 13] (fun vf vk wr => ∃ (k : Nat) (f : Bool), k ≤ Y.length ∧ vf = .bool f ∧ vk = .int .i64 (k : Int) ∧ Hid ((Y.take k).any (Dp.has G) = f) ∧ Hid (Sees H wr [(v, E), (v', D)] [(.slice A7 Y.length c7, Y), (.slice (some a5) L.length c5, L), (.slice A4 G.length c4, G)]) ∧ Hid (Below w.heap.size w wr)) (fun _ vk _ => Y.length - (intOf vk).toNat)
      case atStart => exact ⟨0, false, by omega, rfl, rfl, Lib.hid rfl, HS7, HB7⟩
      case round =>
        clear HS7 HB7
        obtain ⟨k, f, hk, rfl, rfl, HF, HSk, HBk⟩ := hrel
        by_cases hkl : k < Y.length
        · have hkl' : (k : Int) < (Y.length : Int) := by omega
          have hk0 : (0 : Int) ≤ (k : Int) := by omega
          obtain ⟨a7, _, e7, x7⟩ := HSk.out.nth (List.mem_cons_self ..) k hkl
          cases e7
          have HT := Lib.hid (List.take_succ_eq_append_getElem hkl)
          generalize Y[k] = y at *
          cases f with
          | true =>
            have HN : Hid ((Y.take (k + 1)).any (Dp.has G) = true) := Lib.hid (by rw [HT.out, List.any_append, HF.out]; rfl)
            go_wp2
            go_roundw
            case rel => exact ⟨k + 1, true, by omega, rfl, by go_num, HN, HSk, HBk⟩
            case measure => simp [intOf]; omega
          | false =>
            have HIn := Lib.hid (HSk.out.inn HK.out (va := .slice A4 G.length c4) (l := G) (by simp) (by omega) y)
            have HN : Hid ((Y.take (k + 1)).any (Dp.has G) = Dp.has G y) := Lib.hid (by rw [HT.out, List.any_append, HF.out]; simp)
            generalize Dp.has G y = f' at *
            go_wp2_with (first
              | (go_at_call 19
                 refine HIn.out.mono ?_
                 rintro e w8 ⟨rfl, h8, b8⟩
                 have HS8 := Lib.hid h8
                 have HB8 := Lib.hid (HBk.out.trans (b8.mono HBk.out.size))
                 clear h8 b8))
            go_roundw
            case rel => exact ⟨k + 1, f', by omega, rfl, by go_num, HN, HS8, HB8⟩
            case measure => simp [intOf]; omega
        · obtain rfl : k = Y.length := by omega
          have hkl' : ¬ (Y.length : Int) < (Y.length : Int) := by omega
          have z5 := HX5.out _ _ _ HSk.out (by simp)
          have HFx : Hid (x ≠ ts → f = Dp.has G x) := Lib.hid (fun hx => by
            have h := HF.out
            rw [List.take_length] at h
            rw [← h]
            exact HA.out hx)
          have HInx : Hid (∀ W R, Sees H W [(v, E), (v', D)] R → (.slice A4 G.length c4, G) ∈ R → Calls Try.prog 19 #[.slice A4 G.length c4, .int .i64 x] W fun e w' => e = .returned (.bool (Dp.has G x)) ∧ Sees H w' [(v, E), (v', D)] R ∧ Below W.heap.size W w') := Lib.hid (fun W R h hr => h.inn HK.out hr (by omega) x)
          generalize Dp.has G x = g at *
          have HWv := Lib.hid (fun W R h => HWv.out W R h)
          by_cases hx : x = ts
          · have d1 : (x != ts) = false := by simpa using hx
            clear hx HFx
            cases g with
            | true =>
              go_wp2_with (first
                | (go_at_call 19
                   refine (HInx.out _ _ HSk.out (by simp)).mono ?_
                   rintro e w8 ⟨rfl, h8, b8⟩
                   have z8 := HX5.out _ _ _ h8 (by simp)
                   replace HSk := Lib.hid h8
                   replace HBk := Lib.hid (HBk.out.trans (b8.mono HBk.out.size))
                   clear h8 b8))
              go_roundw
              case rel => exact ⟨i + 1, by omega, by go_num, Lib.hid HSk.out.tail, HBk⟩
              case measure => simp [intOf]; omega
            | false =>
              have HMY : Hid (M = Y) := Lib.hid (HM.out rfl)
              go_wp2_with (first
                | (go_at_call 19
                   refine (HInx.out _ _ HSk.out (by simp)).mono ?_
                   rintro e w8 ⟨rfl, h8, b8⟩
                   have z8 := HX5.out _ _ _ h8 (by simp)
                   replace HSk := Lib.hid h8
                   replace HBk := Lib.hid (HBk.out.trans (b8.mono HBk.out.size))
                   clear h8 b8)
                | (go_at_call 15
                   refine (HWv.out _ _ HSk.out).mono ?_
                   rintro e w9 ⟨v9, rfl, h9, b9⟩
                   have HSm := Lib.hid (h9.same HK.out (List.mem_cons_self ..) (List.mem_cons_of_mem _ (List.mem_cons_self ..)) (by rw [HMY.out]; omega) (by omega))
                   have HB9 := Lib.hid (HBk.out.trans (b9.mono HBk.out.size))
                   obtain ⟨A9, c9, e9, _⟩ := h9.form (List.mem_cons_self ..)
                   have e9 : v9 = .slice A9 M.length c9 := e9
                   subst e9
                   rw [decide_eq_true HMY.out] at HSm
                   clear h9 b9)
                | (go_at_call 13
                   refine HSm.out.mono ?_
                   rintro e w10 ⟨rfl, h10, b10⟩
                   have HS10 := Lib.hid h10
                   have HB10 := Lib.hid (HB9.out.trans (b10.mono HB9.out.size))
                   clear h10 b10))
              go_roundw
              case rel => exact ⟨i + 1, by omega, by go_num, Lib.hid HS10.out.tail.tail, HB10⟩
              case measure => simp [intOf]; omega
          · have d1 : (x != ts) = true := by simpa using hx
            have hfg := HFx.out hx
            clear hx HFx
            subst hfg
            cases f with
            | true =>
              go_wp2_with (first
                | (go_at_call 19
                   refine (HInx.out _ _ HSk.out (by simp)).mono ?_
                   rintro e w8 ⟨rfl, h8, b8⟩
                   have z8 := HX5.out _ _ _ h8 (by simp)
                   replace HSk := Lib.hid h8
                   replace HBk := Lib.hid (HBk.out.trans (b8.mono HBk.out.size))
                   clear h8 b8))
              go_roundw
              case rel => exact ⟨i + 1, by omega, by go_num, Lib.hid HSk.out.tail, HBk⟩
              case measure => simp [intOf]; omega
            | false =>
              have HMY : Hid (M = Y) := Lib.hid (HM.out rfl)
              go_wp2_with (first
                | (go_at_call 19
                   refine (HInx.out _ _ HSk.out (by simp)).mono ?_
                   rintro e w8 ⟨rfl, h8, b8⟩
                   have z8 := HX5.out _ _ _ h8 (by simp)
                   replace HSk := Lib.hid h8
                   replace HBk := Lib.hid (HBk.out.trans (b8.mono HBk.out.size))
                   clear h8 b8)
                | (go_at_call 15
                   refine (HWv.out _ _ HSk.out).mono ?_
                   rintro e w9 ⟨v9, rfl, h9, b9⟩
                   have HSm := Lib.hid (h9.same HK.out (List.mem_cons_self ..) (List.mem_cons_of_mem _ (List.mem_cons_self ..)) (by rw [HMY.out]; omega) (by omega))
                   have HB9 := Lib.hid (HBk.out.trans (b9.mono HBk.out.size))
                   obtain ⟨A9, c9, e9, _⟩ := h9.form (List.mem_cons_self ..)
                   have e9 : v9 = .slice A9 M.length c9 := e9
                   subst e9
                   rw [decide_eq_true HMY.out] at HSm
                   clear h9 b9)
                | (go_at_call 13
                   refine HSm.out.mono ?_
                   rintro e w10 ⟨rfl, h10, b10⟩
                   have HS10 := Lib.hid h10
                   have HB10 := Lib.hid (HB9.out.trans (b10.mono HB9.out.size))
                   clear h10 b10))
              go_roundw
              case rel => exact ⟨i + 1, by omega, by go_num, Lib.hid HS10.out.tail.tail, HB10⟩
              case measure => simp [intOf]; omega
    · obtain rfl : i = L.length := by omega
      have hil' : ¬ (L.length : Int) < (L.length : Int) := by omega
      have HSG := Lib.hid HS.out.tail
      go_wp2_with fail
      go_loopw [14] (fun vj wr => ∃ j : Nat, j ≤ G.length ∧ vj = .int .i64 (j : Int) ∧ Hid (Sees H wr [(v, E), (v', D)] [(.slice A4 G.length c4, G)]) ∧ Hid (Below w.heap.size w wr)) (fun vj _ => G.length - (intOf vj).toNat)
      case atStart => exact ⟨0, by omega, rfl, HSG, HB⟩
      case round =>
        clear HS HB HSG
        obtain ⟨j, hj, rfl, HS, HB⟩ := hrel
        by_cases hjl : j < G.length
        · have hjl' : (j : Int) < (G.length : Int) := by omega
          have hj0 : (0 : Int) ≤ (j : Int) := by omega
          obtain ⟨a4, _, e4, x4⟩ := HS.out.nth (List.mem_cons_self ..) j hjl
          cases e4
          have hm := List.getElem_mem hjl
          have HWj := Lib.hid (HS.out.waits HK.out (v := v) (d := E) (by simp) HDl.out G[j] (HGi.out _ hm))
          rw [HWn.out _ hm] at HWj
          clear hm
          generalize G[j] = g at *
          go_wp2_with (first
            | (go_at_call 15
               refine HWj.out.mono ?_
               rintro e w9 ⟨v9, rfl, h9, b9⟩
               have HS9 := Lib.hid h9.tail
               have HB9 := Lib.hid (HB.out.trans (b9.mono HB.out.size))
               obtain ⟨A9, c9, e9, _⟩ := h9.form (List.mem_cons_self ..)
               have e9 : v9 = .slice A9 0 c9 := e9
               subst e9
               clear h9 b9))
          go_roundw
          case rel => exact ⟨j + 1, by omega, by go_num, HS9, HB9⟩
          case measure => simp [intOf]; omega
        · obtain rfl : j = G.length := by omega
          have hjl' : ¬ (G.length : Int) < (G.length : Int) := by omega
          go_wp2
          go_ret
          exact ⟨rfl, HB.out⟩

theorem DepsDrop_walk (K : DepsOk H) (w : World) (vd : Value) (ld : List Dd12) (ts : Int) (hts : I64 ts) (G0 : Nat → Prop) (hD : Dds12 w G0 vd ld) (hG0 : ∀ b, G0 b → b < w.heap.size) :
    Calls Try.prog 5 #[vd, .int .i64 ts] w fun e w' => e = .returned (.bool true) ∧ Below w.heap.size w w' := by
  by_cases h1 : ts < 1
  · exact DepsDrop_low K w vd ld ts hts h1 G0 hD hG0
  · exact DepsDrop_high K w vd ld ts hts h1 G0 hD hG0
end
end Go.Proofs.Ythbnbifagenpiaa
