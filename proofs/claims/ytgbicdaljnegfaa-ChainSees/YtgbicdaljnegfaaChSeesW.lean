/-
  Walks of layer chain's laws: ChainSees.
-/
import Derived.Test.YtgbicdaljnegfaaChRun
namespace Go.Proofs.Ytgbicdaljnegfaa
open Go.RowKit

theorem Lc.same {w w' : World} {v : Value} {c : Cn.Ch} (h : Lc w v c) (hs : Still w w') : Lc w' v c := h.below hs.low

set_option maxRecDepth 100000 in
set_option maxHeartbeats 8000000 in
theorem ChainSees_walk (K : ChainOk) (w : World) (vd : Value) (ld : List Dd10) (G0 : Nat → Prop) (ts : Int) (t0 : -9223372036854775808 ≤ ts) (t1 : ts ≤ 9223372036854775807) (hD : Dds10 w G0 vd ld) (hG0 : ∀ b, G0 b → b < w.heap.size) :
    Calls Try.prog 8 #[vd, .int .i64 ts] w fun e w' => e = .returned (.bool true) ∧ Below w.heap.size w w' := by
  have HD := Lib.hid hD
  obtain ⟨Ad, capd, rfl, hcd⟩ := hD.form
  clear hD
  have HA := Lib.hid (awake10_any K w)
  have HRun : Hid (∀ W, Below w.heap.size w W → Calls Try.prog 27 #[.slice Ad ld.length capd] W fun e w' => ∃ v', e = .returned v' ∧ (∃ c, Lc w' v' c ∧ Cn.J c ∧ c.length ≤ 61) ∧ Below W.heap.size W w') := Lib.hid (fun W hb => run10_any K (HD.out.below hb hG0) (fun b q => Nat.lt_of_lt_of_le (hG0 b q) hb.size))
  have HRd : Hid (∀ W A cap (c : Cn.Ch), Lc W (.slice A c.length cap) c → c.length ≤ 61 → Calls Try.prog 11 #[.slice A c.length cap, .int .i64 ts] W fun e w' => ∃ A' cap', e = .returned (.tuple #[.slice A' c.length cap', .agg #[.int .i64 (Cn.readV c ts).ts, .int .i64 (Cn.readV c ts).rd, .string (Cn.readV c ts).val, .bool (Cn.readV c ts).done]]) ∧ Lc w' (.slice A' c.length cap') (Cn.readC c ts) ∧ Below W.heap.size W w') := Lib.hid (fun W A cap c h hl => (K.readL h (by omega) ts t0 t1).mono (fun _ _ hh => by
    obtain ⟨v'', rfl, hs, hb⟩ := hh
    obtain ⟨A', cap', rfl, _⟩ := Lc.form hs
    rw [Cn.read_len] at hs ⊢
    exact ⟨A', cap', rfl, hs, hb⟩))
  go_enter Try.func8, Try.ntmps8
  go_wp2_with (first
    | (go_at_call 9; refine HA.out.mono ?_; rintro e w1 ⟨rfl, b1⟩; have HB1 := Lib.hid b1; clear b1)
    | (go_at_call 27; refine (HRun.out _ HB1.out).mono ?_; rintro e w2 ⟨v2, rfl, hc2, b2⟩))
  have HB2 := Lib.hid (below_two HB1.out b2)
  obtain ⟨c, hc, hj, hl⟩ := hc2
  obtain ⟨A, cap, rfl, hcap⟩ := Lc.form hc
  have HC2 := Lib.hid hc
  have HJ := Lib.hid hj
  have HK := Lib.hid (HRd.out _ _ _ _ hc hl)
  clear hc hj b2 HB1 HRun HA HRd
  by_cases hts : ts < 0
  · generalize Cn.readV c ts = x at *
    go_wp2_with (first
      | (go_at_call 11; refine HK.out.mono ?_; rintro e w3 ⟨A', cap', rfl, hs3, b3⟩))
    go_ret
    exact ⟨rfl, below_two HB2.out (b3.alloc b3.size _)⟩
  · have d0 : decide (ts < 0) = false := decide_eq_false hts
    obtain ⟨a, v, b, hs⟩ := HJ.out.sp (ts := ts) (by omega)
    have hrv : Cn.readV c ts = Cn.touch v ts := hs.readV HJ.out.may
    rw [hrv] at HK
    have HSees := Lib.hid (fun i hi hi' => Cn.sees HJ.out.may hs i hi hi')
    have hle := hs.le
    have hrd : ts ≤ (Cn.touch v ts).rd := by show ts ≤ max v.rd ts; omega
    have hte : v.ts = (Cn.touch v ts).ts := rfl
    rw [hte] at hle HSees
    clear hs hrv hte
    generalize Cn.touch v ts = t at *
    have HRl := Lib.hid (Cn.read_len c ts)
    generalize Cn.readC c ts = rc at *
    obtain ⟨vt, vr, vv, vq⟩ := t
    dsimp only at HK HSees hle hrd
    go_wp2_with (first
      | (go_at_call 11; refine HK.out.mono ?_; rintro e w3 ⟨A', cap', rfl, hs3, b3⟩))
    have hba : Below w3.heap.size w3 (w3.alloc (.cells #[.int .i64 vt, .int .i64 vr, .string vv, .bool vq] 27)) := (Below.refl _ _).alloc (Nat.le_refl _) _
    have HX := Lib.hid (Bk.new w3 [.int .i64 vt, .int .i64 vr, .string vv, .bool vq] 27 rfl)
    have HB4 := Lib.hid (below_two (below_two HB2.out b3) hba)
    have HR4 := Lib.hid (hs3.below hba)
    have HC4 := Lib.hid ((HC2.out.below b3).below hba)
    clear hs3 b3 hba HB2 HC2 HK
    generalize (w3.alloc (.cells #[.int .i64 vt, .int .i64 vr, .string vv, .bool vq] 27)) = w4 at *
    generalize w3.heap.size = X at *
    go_loopw [9] (fun i wr => ∃ k : Nat, k ≤ c.length ∧ i = .int .i64 (k : Int) ∧ Hid (Still w4 wr)) (fun i _ => c.length - (intOf i).toNat)
    case atStart => exact ⟨0, Nat.zero_le _, rfl, Lib.hid (Still.refl _)⟩
    case round =>
      obtain ⟨k, hk, rfl, HW⟩ := hrel
      by_cases hlt : k < c.length
      · have hlt' : (k : Int) < (c.length : Int) := by omega
        have hk0 : (0 : Int) ≤ (k : Int) := by omega
        have hltr : k < rc.length := by rw [HRl.out]; exact hlt
        obtain ⟨s1, s2, s3⟩ := HSees.out k hlt hltr
        obtain ⟨ac, _, ec, _, _, x⟩ := HC4.out.nth k hlt
        obtain ⟨ar, _, er, _, _, y⟩ := HR4.out.nth k hltr
        cases ec
        simp only [Value.slice.injEq] at er
        obtain ⟨er1, er2, er3⟩ := er
        subst er1
        clear er2 er3
        have HXc := Lib.hid (four_same HW.out.cell x)
        have HYc := Lib.hid (four_same HW.out.cell y)
        have HZ := Lib.hid (HX.out.step HW.out.low)
        clear x y
        have hWd := HW
        by_cases ho : c[k].ts = vt
        · obtain ⟨s2a, s2b⟩ := s2 ho
          rw [s2a] at HYc
          rw [ho] at HXc
          have f0 : (vt == vt) = true := by simp
          clear s1 s2 s3 s2a ho hltr
          generalize c[k].rd = ur at *
          generalize c[k].val = uv at *
          generalize c[k].done = uq at *
          have f1 : decide (vt ≤ ts) = true := decide_eq_true hle
          have f2 : decide (vt > vt) = false := by simp
          have f2' : decide (vt < vt) = false := by simp
          have Q := neqC_self vt vr vv vq
          by_cases hm : ur < ts
          · have hvr : vr = ts := by omega
            subst hvr
            clear s2b hrd
            have f3 : ¬ vr ≤ ur := by omega
            have f3' : ¬ vr < ur := by omega
            obtain ⟨x0, x1, x2, x3⟩ := HXc.out
            obtain ⟨y0, y1, y2, y3⟩ := HYc.out
            have z0 := HZ.out.cell 0 _ rfl
            have z1 := HZ.out.cell 1 _ rfl
            have z2 := HZ.out.cell 2 _ rfl
            have z3 := HZ.out.cell 3 _ rfl
            go_wp2_with fail
            go_quiet (fail)
            rename_i nq
            have hst := HW.out.drewN nq
            have HS9 := Lib.hid hst
            have hc9 : ∀ p : Addr, (wr.drewN nq).cell? p = wr.cell? p := fun _ => rfl
            clear hst
            generalize wr.drewN nq = w9 at *
            have x0' := (hc9 _).trans x0
            have x1' := (hc9 _).trans x1
            have x2' := (hc9 _).trans x2
            have x3' := (hc9 _).trans x3
            have y0' := (hc9 _).trans y0
            have y1' := (hc9 _).trans y1
            have y2' := (hc9 _).trans y2
            have y3' := (hc9 _).trans y3
            have z0' := (hc9 _).trans z0
            have z1' := (hc9 _).trans z1
            have z2' := (hc9 _).trans z2
            have z3' := (hc9 _).trans z3
            clear hc9 x0 x1 x2 x3 y0 y1 y2 y3 z0 z1 z2 z3
            go_wp2_with fail
            go_quiet (fail)
            go_wp2_with fail
            go_roundw
            case rel => exact ⟨k + 1, by omega, by go_num, Lib.hid (HS9.out.drewN _)⟩
            case measure => simp [intOf]; omega
          · have hvr : vr = ur := by omega
            subst hvr
            clear s2b
            have f3 : ts ≤ vr := by omega
            have f3' : ¬ vr < ts := by omega
            obtain ⟨x0, x1, x2, x3⟩ := HXc.out
            obtain ⟨y0, y1, y2, y3⟩ := HYc.out
            have z0 := HZ.out.cell 0 _ rfl
            have z1 := HZ.out.cell 1 _ rfl
            have z2 := HZ.out.cell 2 _ rfl
            have z3 := HZ.out.cell 3 _ rfl
            go_wp2_with fail
            go_quiet (fail)
            rename_i nq
            have hst := HW.out.drewN nq
            have HS9 := Lib.hid hst
            have hc9 : ∀ p : Addr, (wr.drewN nq).cell? p = wr.cell? p := fun _ => rfl
            clear hst
            generalize wr.drewN nq = w9 at *
            have x0' := (hc9 _).trans x0
            have x1' := (hc9 _).trans x1
            have x2' := (hc9 _).trans x2
            have x3' := (hc9 _).trans x3
            have y0' := (hc9 _).trans y0
            have y1' := (hc9 _).trans y1
            have y2' := (hc9 _).trans y2
            have y3' := (hc9 _).trans y3
            have z0' := (hc9 _).trans z0
            have z1' := (hc9 _).trans z1
            have z2' := (hc9 _).trans z2
            have z3' := (hc9 _).trans z3
            clear hc9 x0 x1 x2 x3 y0 y1 y2 y3 z0 z1 z2 z3
            go_wp2_with fail
            go_quiet (fail)
            go_wp2_with fail
            go_roundw
            case rel => exact ⟨k + 1, by omega, by go_num, Lib.hid (HS9.out.drewN _)⟩
            case measure => simp [intOf]; omega
        · have s3 := s3 ho
          rw [s3] at HYc
          have f0 : (c[k].ts == vt) = false := by simpa using ho
          have Q := neqC_self c[k].ts c[k].rd c[k].val c[k].done
          by_cases hu : c[k].ts ≤ ts
          · have f1 : decide (c[k].ts ≤ ts) = true := decide_eq_true hu
            have h9 := s1 hu
            have f2 : decide (c[k].ts > vt) = false := decide_eq_false (by omega)
            have f2' : decide (vt < c[k].ts) = false := decide_eq_false (by omega)
            clear s1 s2 s3 ho hu h9
            generalize c[k] = u at *
            obtain ⟨x0, x1, x2, x3⟩ := HXc.out
            obtain ⟨y0, y1, y2, y3⟩ := HYc.out
            have z0 := HZ.out.cell 0 _ rfl
            have z1 := HZ.out.cell 1 _ rfl
            have z2 := HZ.out.cell 2 _ rfl
            have z3 := HZ.out.cell 3 _ rfl
            go_wp2_with fail
            go_quiet (fail)
            rename_i nq
            have hst := HW.out.drewN nq
            have HS9 := Lib.hid hst
            have hc9 : ∀ p : Addr, (wr.drewN nq).cell? p = wr.cell? p := fun _ => rfl
            clear hst
            generalize wr.drewN nq = w9 at *
            have x0' := (hc9 _).trans x0
            have x1' := (hc9 _).trans x1
            have x2' := (hc9 _).trans x2
            have x3' := (hc9 _).trans x3
            have y0' := (hc9 _).trans y0
            have y1' := (hc9 _).trans y1
            have y2' := (hc9 _).trans y2
            have y3' := (hc9 _).trans y3
            have z0' := (hc9 _).trans z0
            have z1' := (hc9 _).trans z1
            have z2' := (hc9 _).trans z2
            have z3' := (hc9 _).trans z3
            clear hc9 x0 x1 x2 x3 y0 y1 y2 y3 z0 z1 z2 z3
            go_wp2_with fail
            go_quiet (fail)
            go_wp2_with fail
            go_roundw
            case rel => exact ⟨k + 1, by omega, by go_num, Lib.hid (HS9.out.drewN _)⟩
            case measure => simp [intOf]; omega
          · have f1 : decide (c[k].ts ≤ ts) = false := decide_eq_false hu
            clear s1 s2 s3 ho hu
            generalize c[k] = u at *
            obtain ⟨x0, x1, x2, x3⟩ := HXc.out
            obtain ⟨y0, y1, y2, y3⟩ := HYc.out
            have z0 := HZ.out.cell 0 _ rfl
            have z1 := HZ.out.cell 1 _ rfl
            have z2 := HZ.out.cell 2 _ rfl
            have z3 := HZ.out.cell 3 _ rfl
            go_wp2_with fail
            go_quiet (fail)
            rename_i nq
            have hst := HW.out.drewN nq
            have HS9 := Lib.hid hst
            have hc9 : ∀ p : Addr, (wr.drewN nq).cell? p = wr.cell? p := fun _ => rfl
            clear hst
            generalize wr.drewN nq = w9 at *
            have x0' := (hc9 _).trans x0
            have x1' := (hc9 _).trans x1
            have x2' := (hc9 _).trans x2
            have x3' := (hc9 _).trans x3
            have y0' := (hc9 _).trans y0
            have y1' := (hc9 _).trans y1
            have y2' := (hc9 _).trans y2
            have y3' := (hc9 _).trans y3
            have z0' := (hc9 _).trans z0
            have z1' := (hc9 _).trans z1
            have z2' := (hc9 _).trans z2
            have z3' := (hc9 _).trans z3
            clear hc9 x0 x1 x2 x3 y0 y1 y2 y3 z0 z1 z2 z3
            go_wp2_with fail
            go_quiet (fail)
            go_wp2_with fail
            go_roundw
            case rel => exact ⟨k + 1, by omega, by go_num, Lib.hid (HS9.out.drewN _)⟩
            case measure => simp [intOf]; omega
      · have hlt' : ¬ (k : Int) < (c.length : Int) := by omega
        have z0 := (HX.out.step HW.out.low).cell 0 _ rfl
        have z1 := (HX.out.step HW.out.low).cell 1 _ rfl
        have g1 : decide (vt ≤ ts) = true := decide_eq_true hle
        have g2 : decide (vr ≥ ts) = true := decide_eq_true hrd
        go_wp2
        go_ret
        exact ⟨ret_v (v_bool (by first | rfl | simp [hle, hrd])), below_two HB4.out HW.out.low⟩

end Go.Proofs.Ytgbicdaljnegfaa
