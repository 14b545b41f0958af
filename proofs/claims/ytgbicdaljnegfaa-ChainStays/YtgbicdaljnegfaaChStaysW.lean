/-
  Walks of layer chain's laws: ChainStays.
-/
import Derived.Test.YtgbicdaljnegfaaChRun
namespace Go.Proofs.Ytgbicdaljnegfaa
open Go.RowKit

set_option maxRecDepth 100000 in
set_option maxHeartbeats 8000000 in
theorem ChainStays_walk (K : ChainOk) (w : World) (vd vm : Value) (ld lm : List Dd10) (G0 : Nat → Prop) (ts : Int) (t0 : -9223372036854775808 ≤ ts) (t1 : ts ≤ 9223372036854775807) (hD : Dds10 w G0 vd ld) (hM : Dds10 w G0 vm lm) (hG0 : ∀ b, G0 b → b < w.heap.size) :
    Calls Try.prog 5 #[vd, vm, .int .i64 ts] w fun e w' => e = .returned (.bool true) ∧ Below w.heap.size w w' := by
  have HD := Lib.hid hD
  have HM := Lib.hid hM
  obtain ⟨Ad, capd, rfl, hcd⟩ := hD.form
  obtain ⟨Am, capm, rfl, hcm⟩ := hM.form
  clear hD hM
  have HA := Lib.hid (awake10_any K w)
  by_cases hts : ts < 1
  · go_enter Try.func5, Try.ntmps5
    go_wp2_with (first
      | (go_at_call 9; refine HA.out.mono ?_; rintro e w0 ⟨rfl, b0⟩))
    go_ret
    exact ⟨rfl, b0⟩
  · have HRun : Hid (∀ W, Below w.heap.size w W → Calls Try.prog 27 #[.slice Ad ld.length capd] W fun e w' => ∃ v', e = .returned v' ∧ (∃ c, Lc w' v' c ∧ Cn.J c ∧ c.length ≤ 61) ∧ Below W.heap.size W w') := Lib.hid (fun W hb => run10_any K (HD.out.below hb hG0) (fun b q => Nat.lt_of_lt_of_le (hG0 b q) hb.size))
    have HRd : Hid (∀ W v', (∃ c, Lc W v' c ∧ Cn.J c ∧ c.length ≤ 61) → Calls Try.prog 11 #[v', .int .i64 ts] W fun e w' => ∃ v'' x, e = .returned (.tuple #[v'', verA x]) ∧ (∃ c, Lc w' v'' c ∧ Cn.Kp c ts x ∧ c.length ≤ 61) ∧ Below W.heap.size W w') := Lib.hid (fun W v' hh => by
      obtain ⟨c, hc, hj, hl⟩ := hh
      obtain ⟨s, hs⟩ := hj.seen (ts := ts) (by omega)
      refine (K.readL hc (by omega) ts t0 t1).mono (fun _ _ hh => ?_)
      obtain ⟨v'', rfl, hc', hb⟩ := hh
      rw [hs.readV hj.may]
      exact ⟨v'', _, rfl, ⟨_, hc', Cn.Kp.start hj.may hs, by rw [Cn.read_len]; exact hl⟩, hb⟩)
    unfold verA at HRd
    go_enter Try.func5, Try.ntmps5
    go_wp2_with (first
      | (go_at_call 9; refine HA.out.mono ?_; rintro e w0 ⟨rfl, b0⟩; have HB0 := Lib.hid b0; clear b0)
      | (go_at_call 27; refine (HRun.out _ HB0.out).mono ?_; rintro e w1 ⟨v1, rfl, hc1, b1⟩; have HC1 := Lib.hid hc1; have HB1 := Lib.hid (below_two HB0.out b1); clear hc1 b1)
      | (go_at_call 11; refine (HRd.out _ _ HC1.out).mono ?_; rintro e w2 ⟨v2, x, rfl, hc2, b2⟩))
    obtain ⟨vt, vr, vv, vq⟩ := x
    have HX0 := Lib.hid (Bk.new w2 [.int .i64 vt, .int .i64 vr, .string vv, .bool vq] 27 rfl)
    have hba : Below w2.heap.size w2 (w2.alloc (.cells #[.int .i64 vt, .int .i64 vr, .string vv, .bool vq] 27)) := (Below.refl _ _).alloc (Nat.le_refl _) _
    have HB3 := Lib.hid (below_two (below_two HB1.out b2) hba)
    have HC3 : Hid (∃ c, Lc (w2.alloc (.cells #[.int .i64 vt, .int .i64 vr, .string vv, .bool vq] 27)) v2 c ∧ Cn.Kp c ts ⟨vt, vr, vv, vq⟩ ∧ c.length ≤ 61) := Lib.hid (by
      obtain ⟨c, h1, h2, h3⟩ := hc2
      exact ⟨c, h1.below hba, h2, h3⟩)
    have hXw : w.heap.size ≤ w2.heap.size := (below_two HB1.out b2).size
    have HXw := Lib.hid hXw
    clear hc2 b2 hba HRd HRun HC1 HB0 HB1 HA hXw
    dsimp only
    generalize (w2.alloc (.cells #[.int .i64 vt, .int .i64 vr, .string vv, .bool vq] 27)) = w3 at *
    generalize w2.heap.size = X at *
    go_loopw [8, 10] (fun vc v wr => ∃ (i : Nat), i ≤ 60 ∧ v = .int .i64 (i : Int) ∧ Hid (∃ c, Lc wr vc c ∧ Cn.Kp c ts ⟨vt, vr, vv, vq⟩ ∧ c.length ≤ i + 61) ∧ Hid (Below w.heap.size w wr ∧ Bk wr X [.int .i64 vt, .int .i64 vr, .string vv, .bool vq])) (fun _ v _ => 60 - (intOf v).toNat)
    case atStart => exact ⟨0, by omega, rfl, Lib.hid (by obtain ⟨c, h1, h2, h3⟩ := HC3.out; exact ⟨c, h1, h2, by omega⟩), Lib.hid ⟨HB3.out, HX0.out⟩⟩
    case round =>
      clear HC3 HB3 HX0
      obtain ⟨i, hi, rfl, HC, HB⟩ := hrel
      by_cases hil : i < lm.length ∧ i < 60
      · obtain ⟨hil, hi1⟩ := hil
        have hil' : (i : Int) < (lm.length : Int) := by omega
        have hi1' : (i : Int) < 60 := by omega
        have hi0' : (0 : Int) ≤ (i : Int) := by omega
        obtain ⟨ad, _, ed, _, hGd, hok, x0, x1, x2⟩ := (HM.out.below HB.out.1 hG0).nth i hil
        cases ed
        generalize lm[i] = Z at *
        obtain ⟨kd, td, sd⟩ := Z
        obtain ⟨_, _, u0, u1⟩ := hok
        dsimp only at x0 x1 x2 u0 u1
        have HXd := Lib.hid (And.intro x0 (And.intro x1 x2))
        have HGd : Hid ((ad.add (i * 3)).block < w.heap.size) := Lib.hid (by rw [S.add_block]; exact hG0 _ hGd)
        have y0 := HB.out.2.cell 0 _ rfl
        have y3 := HB.out.2.cell 3 _ rfl
        clear hGd x2
        obtain ⟨c, hc⟩ := HC.out
        have HC2 := Lib.hid hc
        clear hc HC
        cases vq with
        | true =>
          by_cases e1 : td = ts
          · have f1 : (td == ts) = true := by simpa using e1
            clear e1
            by_cases e2 : kd = 2
            · have f2 : (kd == 2) = true := by simpa using e2
              clear e2
              go_wp2_with fail
              go_quiet (fail)
              rename_i nq
              go_wp2_with fail
              go_roundw
              case rel => exact ⟨i + 1, by omega, by go_num, Lib.hid ⟨c, HC2.out.1.below (still_b nq), HC2.out.2.1, by have := HC2.out.2.2; omega⟩, Lib.hid ⟨below_two HB.out.1 (still_b nq), HB.out.2.step (still_b nq)⟩⟩
              case measure => simp [intOf]; omega
            · have f2 : (kd == 2) = false := by simpa using e2
              by_cases e3 : td = vt
              · have f3 : (td == vt) = true := by simpa using e3
                clear e3
                by_cases e4 : kd = 4
                · have f4 : (kd == 4) = true := by simpa using e4
                  have f2 : (kd == 2) = false := by rw [e4]; decide
                  have E4 := Lib.hid e4
                  clear e4
                  have HK := Lib.hid (HC2.out.2.1.deed kd td sd (fun hh => e2 hh.2) (fun hh => by rcases hh.2 with ⟨_, g⟩ | g; exact Bool.noConfusion g; have := E4.out; omega))
                  have HLn : Hid ((Cn.deed c kd td sd).length ≤ i + 1 + 61) := Lib.hid (by have := Cn.deed_len_le c kd td sd; have := HC2.out.2.2; omega)
                  go_wp2_with fail
                  go_quiet (fail)
                  rename_i nq
                  have HB9 := Lib.hid (still_b (wr := wr) nq)
                  have HC9 := Lib.hid (HC2.out.1.below HB9.out)
                  obtain ⟨z0, z1, z2⟩ := three_keep (below_two HB.out.1 HB9.out) HGd.out (three_back HB.out.1 HGd.out HXd.out)
                  have HX9 := Lib.hid (HB.out.2.step HB9.out)
                  have HBw := Lib.hid (below_two HB.out.1 HB9.out)
                  clear x0 x1 y0 y3 HB9
                  generalize wr.drewN nq = w9 at *
                  have HO := Lib.hid (do10_any K HC9.out (by have := HC2.out.2.2; omega) kd td sd u0 u1)
                  have HR : Hid (∀ W v', Lc W v' (Cn.deed c kd td sd) → Calls Try.prog 11 #[v', .int .i64 ts] W fun e w' => ∃ v'' q b, e = .returned (.tuple #[v'', .agg #[.int .i64 vt, .int .i64 q, .string vv, .bool b]]) ∧ Below W.heap.size W w') := Lib.hid (fun W v' h => (K.readL h (by have := HLn.out; omega) ts t0 t1).mono (fun _ _ hh => by
                    obtain ⟨v'', rfl, _, hb⟩ := hh
                    obtain ⟨a1, a2⟩ := HK.out.told
                    exact ⟨v'', _, _, ret_v (by unfold verA; rw [a1, a2]), hb⟩))
                  generalize Cn.deed c kd td sd = d at *
                  go_wp2_with (first
                    | (go_at_call 26; refine HO.out.mono ?_; rintro e w4 ⟨v4, rfl, hc4, b4⟩; have HC4 := Lib.hid hc4; have HX4 := Lib.hid (HX9.out.step b4); have HB4 := Lib.hid (below_two HBw.out b4); clear hc4 b4)
                    | (go_at_call 11; refine (HR.out _ _ HC4.out).mono ?_; rintro e w5 ⟨v5, q5, b5', rfl, b5⟩; have ba := b5.alloc b5.size (.cells #[.int .i64 vt, .int .i64 q5, .string vv, .bool b5'] 27); have HC5 := Lib.hid (HC4.out.below ba); have HX5 := Lib.hid (HX4.out.step ba); have y0 := HX5.out.cell 0 _ rfl; have y2 := HX5.out.cell 2 _ rfl; have HB5 := Lib.hid (below_two HB4.out ba); clear b5 ba))
                  go_roundw
                  case rel => exact ⟨i + 1, by omega, by go_num, Lib.hid ⟨d, HC5.out, HK.out, HLn.out⟩, Lib.hid ⟨HB5.out, HX5.out⟩⟩
                  case measure => simp [intOf]; omega
                · have f4 : (kd == 4) = false := by simpa using e4
                  have HK := Lib.hid (HC2.out.2.1.deed kd td sd (fun hh => e2 hh.2) (fun hh => by rcases hh.2 with ⟨g, _⟩ | g; exact e4 g; exact e2 g))
                  have HLn : Hid ((Cn.deed c kd td sd).length ≤ i + 1 + 61) := Lib.hid (by have := Cn.deed_len_le c kd td sd; have := HC2.out.2.2; omega)
                  go_wp2_with fail
                  go_quiet (fail)
                  rename_i nq
                  have HB9 := Lib.hid (still_b (wr := wr) nq)
                  have HC9 := Lib.hid (HC2.out.1.below HB9.out)
                  obtain ⟨z0, z1, z2⟩ := three_keep (below_two HB.out.1 HB9.out) HGd.out (three_back HB.out.1 HGd.out HXd.out)
                  have HX9 := Lib.hid (HB.out.2.step HB9.out)
                  have HBw := Lib.hid (below_two HB.out.1 HB9.out)
                  clear x0 x1 y0 y3 HB9
                  generalize wr.drewN nq = w9 at *
                  have HO := Lib.hid (do10_any K HC9.out (by have := HC2.out.2.2; omega) kd td sd u0 u1)
                  have HR : Hid (∀ W v', Lc W v' (Cn.deed c kd td sd) → Calls Try.prog 11 #[v', .int .i64 ts] W fun e w' => ∃ v'' q b, e = .returned (.tuple #[v'', .agg #[.int .i64 vt, .int .i64 q, .string vv, .bool b]]) ∧ Below W.heap.size W w') := Lib.hid (fun W v' h => (K.readL h (by have := HLn.out; omega) ts t0 t1).mono (fun _ _ hh => by
                    obtain ⟨v'', rfl, _, hb⟩ := hh
                    obtain ⟨a1, a2⟩ := HK.out.told
                    exact ⟨v'', _, _, ret_v (by unfold verA; rw [a1, a2]), hb⟩))
                  generalize Cn.deed c kd td sd = d at *
                  go_wp2_with (first
                    | (go_at_call 26; refine HO.out.mono ?_; rintro e w4 ⟨v4, rfl, hc4, b4⟩; have HC4 := Lib.hid hc4; have HX4 := Lib.hid (HX9.out.step b4); have HB4 := Lib.hid (below_two HBw.out b4); clear hc4 b4)
                    | (go_at_call 11; refine (HR.out _ _ HC4.out).mono ?_; rintro e w5 ⟨v5, q5, b5', rfl, b5⟩; have ba := b5.alloc b5.size (.cells #[.int .i64 vt, .int .i64 q5, .string vv, .bool b5'] 27); have HC5 := Lib.hid (HC4.out.below ba); have HX5 := Lib.hid (HX4.out.step ba); have y0 := HX5.out.cell 0 _ rfl; have y2 := HX5.out.cell 2 _ rfl; have HB5 := Lib.hid (below_two HB4.out ba); clear b5 ba))
                  go_roundw
                  case rel => exact ⟨i + 1, by omega, by go_num, Lib.hid ⟨d, HC5.out, HK.out, HLn.out⟩, Lib.hid ⟨HB5.out, HX5.out⟩⟩
                  case measure => simp [intOf]; omega
              · have f3 : (td == vt) = false := by simpa using e3
                have HK := Lib.hid (HC2.out.2.1.deed kd td sd (fun hh => e2 hh.2) (fun hh => e3 hh.1))
                have HLn : Hid ((Cn.deed c kd td sd).length ≤ i + 1 + 61) := Lib.hid (by have := Cn.deed_len_le c kd td sd; have := HC2.out.2.2; omega)
                go_wp2_with fail
                go_quiet (fail)
                rename_i nq
                have HB9 := Lib.hid (still_b (wr := wr) nq)
                have HC9 := Lib.hid (HC2.out.1.below HB9.out)
                obtain ⟨z0, z1, z2⟩ := three_keep (below_two HB.out.1 HB9.out) HGd.out (three_back HB.out.1 HGd.out HXd.out)
                have HX9 := Lib.hid (HB.out.2.step HB9.out)
                have HBw := Lib.hid (below_two HB.out.1 HB9.out)
                clear x0 x1 y0 y3 HB9
                generalize wr.drewN nq = w9 at *
                have HO := Lib.hid (do10_any K HC9.out (by have := HC2.out.2.2; omega) kd td sd u0 u1)
                have HR : Hid (∀ W v', Lc W v' (Cn.deed c kd td sd) → Calls Try.prog 11 #[v', .int .i64 ts] W fun e w' => ∃ v'' q b, e = .returned (.tuple #[v'', .agg #[.int .i64 vt, .int .i64 q, .string vv, .bool b]]) ∧ Below W.heap.size W w') := Lib.hid (fun W v' h => (K.readL h (by have := HLn.out; omega) ts t0 t1).mono (fun _ _ hh => by
                  obtain ⟨v'', rfl, _, hb⟩ := hh
                  obtain ⟨a1, a2⟩ := HK.out.told
                  exact ⟨v'', _, _, ret_v (by unfold verA; rw [a1, a2]), hb⟩))
                generalize Cn.deed c kd td sd = d at *
                go_wp2_with (first
                  | (go_at_call 26; refine HO.out.mono ?_; rintro e w4 ⟨v4, rfl, hc4, b4⟩; have HC4 := Lib.hid hc4; have HX4 := Lib.hid (HX9.out.step b4); have HB4 := Lib.hid (below_two HBw.out b4); clear hc4 b4)
                  | (go_at_call 11; refine (HR.out _ _ HC4.out).mono ?_; rintro e w5 ⟨v5, q5, b5', rfl, b5⟩; have ba := b5.alloc b5.size (.cells #[.int .i64 vt, .int .i64 q5, .string vv, .bool b5'] 27); have HC5 := Lib.hid (HC4.out.below ba); have HX5 := Lib.hid (HX4.out.step ba); have y0 := HX5.out.cell 0 _ rfl; have y2 := HX5.out.cell 2 _ rfl; have HB5 := Lib.hid (below_two HB4.out ba); clear b5 ba))
                go_roundw
                case rel => exact ⟨i + 1, by omega, by go_num, Lib.hid ⟨d, HC5.out, HK.out, HLn.out⟩, Lib.hid ⟨HB5.out, HX5.out⟩⟩
                case measure => simp [intOf]; omega
          · have f1 : (td == ts) = false := by simpa using e1
            by_cases e3 : td = vt
            · have f3 : (td == vt) = true := by simpa using e3
              clear e3
              by_cases e4 : kd = 4
              · have f4 : (kd == 4) = true := by simpa using e4
                have f2 : (kd == 2) = false := by rw [e4]; decide
                have E4 := Lib.hid e4
                clear e4
                have HK := Lib.hid (HC2.out.2.1.deed kd td sd (fun hh => e1 hh.1) (fun hh => by rcases hh.2 with ⟨_, g⟩ | g; exact Bool.noConfusion g; have := E4.out; omega))
                have HLn : Hid ((Cn.deed c kd td sd).length ≤ i + 1 + 61) := Lib.hid (by have := Cn.deed_len_le c kd td sd; have := HC2.out.2.2; omega)
                go_wp2_with fail
                go_quiet (fail)
                rename_i nq
                have HB9 := Lib.hid (still_b (wr := wr) nq)
                have HC9 := Lib.hid (HC2.out.1.below HB9.out)
                obtain ⟨z0, z1, z2⟩ := three_keep (below_two HB.out.1 HB9.out) HGd.out (three_back HB.out.1 HGd.out HXd.out)
                have HX9 := Lib.hid (HB.out.2.step HB9.out)
                have HBw := Lib.hid (below_two HB.out.1 HB9.out)
                clear x0 x1 y0 y3 HB9
                generalize wr.drewN nq = w9 at *
                have HO := Lib.hid (do10_any K HC9.out (by have := HC2.out.2.2; omega) kd td sd u0 u1)
                have HR : Hid (∀ W v', Lc W v' (Cn.deed c kd td sd) → Calls Try.prog 11 #[v', .int .i64 ts] W fun e w' => ∃ v'' q b, e = .returned (.tuple #[v'', .agg #[.int .i64 vt, .int .i64 q, .string vv, .bool b]]) ∧ Below W.heap.size W w') := Lib.hid (fun W v' h => (K.readL h (by have := HLn.out; omega) ts t0 t1).mono (fun _ _ hh => by
                  obtain ⟨v'', rfl, _, hb⟩ := hh
                  obtain ⟨a1, a2⟩ := HK.out.told
                  exact ⟨v'', _, _, ret_v (by unfold verA; rw [a1, a2]), hb⟩))
                generalize Cn.deed c kd td sd = d at *
                go_wp2_with (first
                  | (go_at_call 26; refine HO.out.mono ?_; rintro e w4 ⟨v4, rfl, hc4, b4⟩; have HC4 := Lib.hid hc4; have HX4 := Lib.hid (HX9.out.step b4); have HB4 := Lib.hid (below_two HBw.out b4); clear hc4 b4)
                  | (go_at_call 11; refine (HR.out _ _ HC4.out).mono ?_; rintro e w5 ⟨v5, q5, b5', rfl, b5⟩; have ba := b5.alloc b5.size (.cells #[.int .i64 vt, .int .i64 q5, .string vv, .bool b5'] 27); have HC5 := Lib.hid (HC4.out.below ba); have HX5 := Lib.hid (HX4.out.step ba); have y0 := HX5.out.cell 0 _ rfl; have y2 := HX5.out.cell 2 _ rfl; have HB5 := Lib.hid (below_two HB4.out ba); clear b5 ba))
                go_roundw
                case rel => exact ⟨i + 1, by omega, by go_num, Lib.hid ⟨d, HC5.out, HK.out, HLn.out⟩, Lib.hid ⟨HB5.out, HX5.out⟩⟩
                case measure => simp [intOf]; omega
              · have f4 : (kd == 4) = false := by simpa using e4
                by_cases e2 : kd = 2
                · have f2 : (kd == 2) = true := by simpa using e2
                  clear e2
                  go_wp2_with fail
                  go_quiet (fail)
                  rename_i nq
                  go_wp2_with fail
                  go_roundw
                  case rel => exact ⟨i + 1, by omega, by go_num, Lib.hid ⟨c, HC2.out.1.below (still_b nq), HC2.out.2.1, by have := HC2.out.2.2; omega⟩, Lib.hid ⟨below_two HB.out.1 (still_b nq), HB.out.2.step (still_b nq)⟩⟩
                  case measure => simp [intOf]; omega
                · have f2 : (kd == 2) = false := by simpa using e2
                  have HK := Lib.hid (HC2.out.2.1.deed kd td sd (fun hh => e1 hh.1) (fun hh => by rcases hh.2 with ⟨g, _⟩ | g; exact e4 g; exact e2 g))
                  have HLn : Hid ((Cn.deed c kd td sd).length ≤ i + 1 + 61) := Lib.hid (by have := Cn.deed_len_le c kd td sd; have := HC2.out.2.2; omega)
                  go_wp2_with fail
                  go_quiet (fail)
                  rename_i nq
                  have HB9 := Lib.hid (still_b (wr := wr) nq)
                  have HC9 := Lib.hid (HC2.out.1.below HB9.out)
                  obtain ⟨z0, z1, z2⟩ := three_keep (below_two HB.out.1 HB9.out) HGd.out (three_back HB.out.1 HGd.out HXd.out)
                  have HX9 := Lib.hid (HB.out.2.step HB9.out)
                  have HBw := Lib.hid (below_two HB.out.1 HB9.out)
                  clear x0 x1 y0 y3 HB9
                  generalize wr.drewN nq = w9 at *
                  have HO := Lib.hid (do10_any K HC9.out (by have := HC2.out.2.2; omega) kd td sd u0 u1)
                  have HR : Hid (∀ W v', Lc W v' (Cn.deed c kd td sd) → Calls Try.prog 11 #[v', .int .i64 ts] W fun e w' => ∃ v'' q b, e = .returned (.tuple #[v'', .agg #[.int .i64 vt, .int .i64 q, .string vv, .bool b]]) ∧ Below W.heap.size W w') := Lib.hid (fun W v' h => (K.readL h (by have := HLn.out; omega) ts t0 t1).mono (fun _ _ hh => by
                    obtain ⟨v'', rfl, _, hb⟩ := hh
                    obtain ⟨a1, a2⟩ := HK.out.told
                    exact ⟨v'', _, _, ret_v (by unfold verA; rw [a1, a2]), hb⟩))
                  generalize Cn.deed c kd td sd = d at *
                  go_wp2_with (first
                    | (go_at_call 26; refine HO.out.mono ?_; rintro e w4 ⟨v4, rfl, hc4, b4⟩; have HC4 := Lib.hid hc4; have HX4 := Lib.hid (HX9.out.step b4); have HB4 := Lib.hid (below_two HBw.out b4); clear hc4 b4)
                    | (go_at_call 11; refine (HR.out _ _ HC4.out).mono ?_; rintro e w5 ⟨v5, q5, b5', rfl, b5⟩; have ba := b5.alloc b5.size (.cells #[.int .i64 vt, .int .i64 q5, .string vv, .bool b5'] 27); have HC5 := Lib.hid (HC4.out.below ba); have HX5 := Lib.hid (HX4.out.step ba); have y0 := HX5.out.cell 0 _ rfl; have y2 := HX5.out.cell 2 _ rfl; have HB5 := Lib.hid (below_two HB4.out ba); clear b5 ba))
                  go_roundw
                  case rel => exact ⟨i + 1, by omega, by go_num, Lib.hid ⟨d, HC5.out, HK.out, HLn.out⟩, Lib.hid ⟨HB5.out, HX5.out⟩⟩
                  case measure => simp [intOf]; omega
            · have f3 : (td == vt) = false := by simpa using e3
              have HK := Lib.hid (HC2.out.2.1.deed kd td sd (fun hh => e1 hh.1) (fun hh => e3 hh.1))
              have HLn : Hid ((Cn.deed c kd td sd).length ≤ i + 1 + 61) := Lib.hid (by have := Cn.deed_len_le c kd td sd; have := HC2.out.2.2; omega)
              go_wp2_with fail
              go_quiet (fail)
              rename_i nq
              have HB9 := Lib.hid (still_b (wr := wr) nq)
              have HC9 := Lib.hid (HC2.out.1.below HB9.out)
              obtain ⟨z0, z1, z2⟩ := three_keep (below_two HB.out.1 HB9.out) HGd.out (three_back HB.out.1 HGd.out HXd.out)
              have HX9 := Lib.hid (HB.out.2.step HB9.out)
              have HBw := Lib.hid (below_two HB.out.1 HB9.out)
              clear x0 x1 y0 y3 HB9
              generalize wr.drewN nq = w9 at *
              have HO := Lib.hid (do10_any K HC9.out (by have := HC2.out.2.2; omega) kd td sd u0 u1)
              have HR : Hid (∀ W v', Lc W v' (Cn.deed c kd td sd) → Calls Try.prog 11 #[v', .int .i64 ts] W fun e w' => ∃ v'' q b, e = .returned (.tuple #[v'', .agg #[.int .i64 vt, .int .i64 q, .string vv, .bool b]]) ∧ Below W.heap.size W w') := Lib.hid (fun W v' h => (K.readL h (by have := HLn.out; omega) ts t0 t1).mono (fun _ _ hh => by
                obtain ⟨v'', rfl, _, hb⟩ := hh
                obtain ⟨a1, a2⟩ := HK.out.told
                exact ⟨v'', _, _, ret_v (by unfold verA; rw [a1, a2]), hb⟩))
              generalize Cn.deed c kd td sd = d at *
              go_wp2_with (first
                | (go_at_call 26; refine HO.out.mono ?_; rintro e w4 ⟨v4, rfl, hc4, b4⟩; have HC4 := Lib.hid hc4; have HX4 := Lib.hid (HX9.out.step b4); have HB4 := Lib.hid (below_two HBw.out b4); clear hc4 b4)
                | (go_at_call 11; refine (HR.out _ _ HC4.out).mono ?_; rintro e w5 ⟨v5, q5, b5', rfl, b5⟩; have ba := b5.alloc b5.size (.cells #[.int .i64 vt, .int .i64 q5, .string vv, .bool b5'] 27); have HC5 := Lib.hid (HC4.out.below ba); have HX5 := Lib.hid (HX4.out.step ba); have y0 := HX5.out.cell 0 _ rfl; have y2 := HX5.out.cell 2 _ rfl; have HB5 := Lib.hid (below_two HB4.out ba); clear b5 ba))
              go_roundw
              case rel => exact ⟨i + 1, by omega, by go_num, Lib.hid ⟨d, HC5.out, HK.out, HLn.out⟩, Lib.hid ⟨HB5.out, HX5.out⟩⟩
              case measure => simp [intOf]; omega
        | false =>
          by_cases e1 : td = ts
          · have f1 : (td == ts) = true := by simpa using e1
            clear e1
            by_cases e2 : kd = 2
            · have f2 : (kd == 2) = true := by simpa using e2
              clear e2
              go_wp2_with fail
              go_quiet (fail)
              rename_i nq
              go_wp2_with fail
              go_roundw
              case rel => exact ⟨i + 1, by omega, by go_num, Lib.hid ⟨c, HC2.out.1.below (still_b nq), HC2.out.2.1, by have := HC2.out.2.2; omega⟩, Lib.hid ⟨below_two HB.out.1 (still_b nq), HB.out.2.step (still_b nq)⟩⟩
              case measure => simp [intOf]; omega
            · have f2 : (kd == 2) = false := by simpa using e2
              by_cases e3 : td = vt
              · have f3 : (td == vt) = true := by simpa using e3
                clear e3
                by_cases e4 : kd = 4
                · have f4 : (kd == 4) = true := by simpa using e4
                  have f2 : (kd == 2) = false := by rw [e4]; decide
                  have E4 := Lib.hid e4
                  clear e4
                  go_wp2_with fail
                  go_quiet (fail)
                  rename_i nq
                  go_wp2_with fail
                  go_roundw
                  case rel => exact ⟨i + 1, by omega, by go_num, Lib.hid ⟨c, HC2.out.1.below (still_b nq), HC2.out.2.1, by have := HC2.out.2.2; omega⟩, Lib.hid ⟨below_two HB.out.1 (still_b nq), HB.out.2.step (still_b nq)⟩⟩
                  case measure => simp [intOf]; omega
                · have f4 : (kd == 4) = false := by simpa using e4
                  have HK := Lib.hid (HC2.out.2.1.deed kd td sd (fun hh => e2 hh.2) (fun hh => by rcases hh.2 with ⟨g, _⟩ | g; exact e4 g; exact e2 g))
                  have HLn : Hid ((Cn.deed c kd td sd).length ≤ i + 1 + 61) := Lib.hid (by have := Cn.deed_len_le c kd td sd; have := HC2.out.2.2; omega)
                  go_wp2_with fail
                  go_quiet (fail)
                  rename_i nq
                  have HB9 := Lib.hid (still_b (wr := wr) nq)
                  have HC9 := Lib.hid (HC2.out.1.below HB9.out)
                  obtain ⟨z0, z1, z2⟩ := three_keep (below_two HB.out.1 HB9.out) HGd.out (three_back HB.out.1 HGd.out HXd.out)
                  have HX9 := Lib.hid (HB.out.2.step HB9.out)
                  have HBw := Lib.hid (below_two HB.out.1 HB9.out)
                  clear x0 x1 y0 y3 HB9
                  generalize wr.drewN nq = w9 at *
                  have HO := Lib.hid (do10_any K HC9.out (by have := HC2.out.2.2; omega) kd td sd u0 u1)
                  have HR : Hid (∀ W v', Lc W v' (Cn.deed c kd td sd) → Calls Try.prog 11 #[v', .int .i64 ts] W fun e w' => ∃ v'' q b, e = .returned (.tuple #[v'', .agg #[.int .i64 vt, .int .i64 q, .string vv, .bool b]]) ∧ Below W.heap.size W w') := Lib.hid (fun W v' h => (K.readL h (by have := HLn.out; omega) ts t0 t1).mono (fun _ _ hh => by
                    obtain ⟨v'', rfl, _, hb⟩ := hh
                    obtain ⟨a1, a2⟩ := HK.out.told
                    exact ⟨v'', _, _, ret_v (by unfold verA; rw [a1, a2]), hb⟩))
                  generalize Cn.deed c kd td sd = d at *
                  go_wp2_with (first
                    | (go_at_call 26; refine HO.out.mono ?_; rintro e w4 ⟨v4, rfl, hc4, b4⟩; have HC4 := Lib.hid hc4; have HX4 := Lib.hid (HX9.out.step b4); have HB4 := Lib.hid (below_two HBw.out b4); clear hc4 b4)
                    | (go_at_call 11; refine (HR.out _ _ HC4.out).mono ?_; rintro e w5 ⟨v5, q5, b5', rfl, b5⟩; have ba := b5.alloc b5.size (.cells #[.int .i64 vt, .int .i64 q5, .string vv, .bool b5'] 27); have HC5 := Lib.hid (HC4.out.below ba); have HX5 := Lib.hid (HX4.out.step ba); have y0 := HX5.out.cell 0 _ rfl; have y2 := HX5.out.cell 2 _ rfl; have HB5 := Lib.hid (below_two HB4.out ba); clear b5 ba))
                  go_roundw
                  case rel => exact ⟨i + 1, by omega, by go_num, Lib.hid ⟨d, HC5.out, HK.out, HLn.out⟩, Lib.hid ⟨HB5.out, HX5.out⟩⟩
                  case measure => simp [intOf]; omega
              · have f3 : (td == vt) = false := by simpa using e3
                have HK := Lib.hid (HC2.out.2.1.deed kd td sd (fun hh => e2 hh.2) (fun hh => e3 hh.1))
                have HLn : Hid ((Cn.deed c kd td sd).length ≤ i + 1 + 61) := Lib.hid (by have := Cn.deed_len_le c kd td sd; have := HC2.out.2.2; omega)
                go_wp2_with fail
                go_quiet (fail)
                rename_i nq
                have HB9 := Lib.hid (still_b (wr := wr) nq)
                have HC9 := Lib.hid (HC2.out.1.below HB9.out)
                obtain ⟨z0, z1, z2⟩ := three_keep (below_two HB.out.1 HB9.out) HGd.out (three_back HB.out.1 HGd.out HXd.out)
                have HX9 := Lib.hid (HB.out.2.step HB9.out)
                have HBw := Lib.hid (below_two HB.out.1 HB9.out)
                clear x0 x1 y0 y3 HB9
                generalize wr.drewN nq = w9 at *
                have HO := Lib.hid (do10_any K HC9.out (by have := HC2.out.2.2; omega) kd td sd u0 u1)
                have HR : Hid (∀ W v', Lc W v' (Cn.deed c kd td sd) → Calls Try.prog 11 #[v', .int .i64 ts] W fun e w' => ∃ v'' q b, e = .returned (.tuple #[v'', .agg #[.int .i64 vt, .int .i64 q, .string vv, .bool b]]) ∧ Below W.heap.size W w') := Lib.hid (fun W v' h => (K.readL h (by have := HLn.out; omega) ts t0 t1).mono (fun _ _ hh => by
                  obtain ⟨v'', rfl, _, hb⟩ := hh
                  obtain ⟨a1, a2⟩ := HK.out.told
                  exact ⟨v'', _, _, ret_v (by unfold verA; rw [a1, a2]), hb⟩))
                generalize Cn.deed c kd td sd = d at *
                go_wp2_with (first
                  | (go_at_call 26; refine HO.out.mono ?_; rintro e w4 ⟨v4, rfl, hc4, b4⟩; have HC4 := Lib.hid hc4; have HX4 := Lib.hid (HX9.out.step b4); have HB4 := Lib.hid (below_two HBw.out b4); clear hc4 b4)
                  | (go_at_call 11; refine (HR.out _ _ HC4.out).mono ?_; rintro e w5 ⟨v5, q5, b5', rfl, b5⟩; have ba := b5.alloc b5.size (.cells #[.int .i64 vt, .int .i64 q5, .string vv, .bool b5'] 27); have HC5 := Lib.hid (HC4.out.below ba); have HX5 := Lib.hid (HX4.out.step ba); have y0 := HX5.out.cell 0 _ rfl; have y2 := HX5.out.cell 2 _ rfl; have HB5 := Lib.hid (below_two HB4.out ba); clear b5 ba))
                go_roundw
                case rel => exact ⟨i + 1, by omega, by go_num, Lib.hid ⟨d, HC5.out, HK.out, HLn.out⟩, Lib.hid ⟨HB5.out, HX5.out⟩⟩
                case measure => simp [intOf]; omega
          · have f1 : (td == ts) = false := by simpa using e1
            by_cases e3 : td = vt
            · have f3 : (td == vt) = true := by simpa using e3
              clear e3
              by_cases e4 : kd = 4
              · have f4 : (kd == 4) = true := by simpa using e4
                have f2 : (kd == 2) = false := by rw [e4]; decide
                have E4 := Lib.hid e4
                clear e4
                go_wp2_with fail
                go_quiet (fail)
                rename_i nq
                go_wp2_with fail
                go_roundw
                case rel => exact ⟨i + 1, by omega, by go_num, Lib.hid ⟨c, HC2.out.1.below (still_b nq), HC2.out.2.1, by have := HC2.out.2.2; omega⟩, Lib.hid ⟨below_two HB.out.1 (still_b nq), HB.out.2.step (still_b nq)⟩⟩
                case measure => simp [intOf]; omega
              · have f4 : (kd == 4) = false := by simpa using e4
                by_cases e2 : kd = 2
                · have f2 : (kd == 2) = true := by simpa using e2
                  clear e2
                  go_wp2_with fail
                  go_quiet (fail)
                  rename_i nq
                  go_wp2_with fail
                  go_roundw
                  case rel => exact ⟨i + 1, by omega, by go_num, Lib.hid ⟨c, HC2.out.1.below (still_b nq), HC2.out.2.1, by have := HC2.out.2.2; omega⟩, Lib.hid ⟨below_two HB.out.1 (still_b nq), HB.out.2.step (still_b nq)⟩⟩
                  case measure => simp [intOf]; omega
                · have f2 : (kd == 2) = false := by simpa using e2
                  have HK := Lib.hid (HC2.out.2.1.deed kd td sd (fun hh => e1 hh.1) (fun hh => by rcases hh.2 with ⟨g, _⟩ | g; exact e4 g; exact e2 g))
                  have HLn : Hid ((Cn.deed c kd td sd).length ≤ i + 1 + 61) := Lib.hid (by have := Cn.deed_len_le c kd td sd; have := HC2.out.2.2; omega)
                  go_wp2_with fail
                  go_quiet (fail)
                  rename_i nq
                  have HB9 := Lib.hid (still_b (wr := wr) nq)
                  have HC9 := Lib.hid (HC2.out.1.below HB9.out)
                  obtain ⟨z0, z1, z2⟩ := three_keep (below_two HB.out.1 HB9.out) HGd.out (three_back HB.out.1 HGd.out HXd.out)
                  have HX9 := Lib.hid (HB.out.2.step HB9.out)
                  have HBw := Lib.hid (below_two HB.out.1 HB9.out)
                  clear x0 x1 y0 y3 HB9
                  generalize wr.drewN nq = w9 at *
                  have HO := Lib.hid (do10_any K HC9.out (by have := HC2.out.2.2; omega) kd td sd u0 u1)
                  have HR : Hid (∀ W v', Lc W v' (Cn.deed c kd td sd) → Calls Try.prog 11 #[v', .int .i64 ts] W fun e w' => ∃ v'' q b, e = .returned (.tuple #[v'', .agg #[.int .i64 vt, .int .i64 q, .string vv, .bool b]]) ∧ Below W.heap.size W w') := Lib.hid (fun W v' h => (K.readL h (by have := HLn.out; omega) ts t0 t1).mono (fun _ _ hh => by
                    obtain ⟨v'', rfl, _, hb⟩ := hh
                    obtain ⟨a1, a2⟩ := HK.out.told
                    exact ⟨v'', _, _, ret_v (by unfold verA; rw [a1, a2]), hb⟩))
                  generalize Cn.deed c kd td sd = d at *
                  go_wp2_with (first
                    | (go_at_call 26; refine HO.out.mono ?_; rintro e w4 ⟨v4, rfl, hc4, b4⟩; have HC4 := Lib.hid hc4; have HX4 := Lib.hid (HX9.out.step b4); have HB4 := Lib.hid (below_two HBw.out b4); clear hc4 b4)
                    | (go_at_call 11; refine (HR.out _ _ HC4.out).mono ?_; rintro e w5 ⟨v5, q5, b5', rfl, b5⟩; have ba := b5.alloc b5.size (.cells #[.int .i64 vt, .int .i64 q5, .string vv, .bool b5'] 27); have HC5 := Lib.hid (HC4.out.below ba); have HX5 := Lib.hid (HX4.out.step ba); have y0 := HX5.out.cell 0 _ rfl; have y2 := HX5.out.cell 2 _ rfl; have HB5 := Lib.hid (below_two HB4.out ba); clear b5 ba))
                  go_roundw
                  case rel => exact ⟨i + 1, by omega, by go_num, Lib.hid ⟨d, HC5.out, HK.out, HLn.out⟩, Lib.hid ⟨HB5.out, HX5.out⟩⟩
                  case measure => simp [intOf]; omega
            · have f3 : (td == vt) = false := by simpa using e3
              have HK := Lib.hid (HC2.out.2.1.deed kd td sd (fun hh => e1 hh.1) (fun hh => e3 hh.1))
              have HLn : Hid ((Cn.deed c kd td sd).length ≤ i + 1 + 61) := Lib.hid (by have := Cn.deed_len_le c kd td sd; have := HC2.out.2.2; omega)
              go_wp2_with fail
              go_quiet (fail)
              rename_i nq
              have HB9 := Lib.hid (still_b (wr := wr) nq)
              have HC9 := Lib.hid (HC2.out.1.below HB9.out)
              obtain ⟨z0, z1, z2⟩ := three_keep (below_two HB.out.1 HB9.out) HGd.out (three_back HB.out.1 HGd.out HXd.out)
              have HX9 := Lib.hid (HB.out.2.step HB9.out)
              have HBw := Lib.hid (below_two HB.out.1 HB9.out)
              clear x0 x1 y0 y3 HB9
              generalize wr.drewN nq = w9 at *
              have HO := Lib.hid (do10_any K HC9.out (by have := HC2.out.2.2; omega) kd td sd u0 u1)
              have HR : Hid (∀ W v', Lc W v' (Cn.deed c kd td sd) → Calls Try.prog 11 #[v', .int .i64 ts] W fun e w' => ∃ v'' q b, e = .returned (.tuple #[v'', .agg #[.int .i64 vt, .int .i64 q, .string vv, .bool b]]) ∧ Below W.heap.size W w') := Lib.hid (fun W v' h => (K.readL h (by have := HLn.out; omega) ts t0 t1).mono (fun _ _ hh => by
                obtain ⟨v'', rfl, _, hb⟩ := hh
                obtain ⟨a1, a2⟩ := HK.out.told
                exact ⟨v'', _, _, ret_v (by unfold verA; rw [a1, a2]), hb⟩))
              generalize Cn.deed c kd td sd = d at *
              go_wp2_with (first
                | (go_at_call 26; refine HO.out.mono ?_; rintro e w4 ⟨v4, rfl, hc4, b4⟩; have HC4 := Lib.hid hc4; have HX4 := Lib.hid (HX9.out.step b4); have HB4 := Lib.hid (below_two HBw.out b4); clear hc4 b4)
                | (go_at_call 11; refine (HR.out _ _ HC4.out).mono ?_; rintro e w5 ⟨v5, q5, b5', rfl, b5⟩; have ba := b5.alloc b5.size (.cells #[.int .i64 vt, .int .i64 q5, .string vv, .bool b5'] 27); have HC5 := Lib.hid (HC4.out.below ba); have HX5 := Lib.hid (HX4.out.step ba); have y0 := HX5.out.cell 0 _ rfl; have y2 := HX5.out.cell 2 _ rfl; have HB5 := Lib.hid (below_two HB4.out ba); clear b5 ba))
              go_roundw
              case rel => exact ⟨i + 1, by omega, by go_num, Lib.hid ⟨d, HC5.out, HK.out, HLn.out⟩, Lib.hid ⟨HB5.out, HX5.out⟩⟩
              case measure => simp [intOf]; omega
      · have hNo : ¬ ((i : Int) < (lm.length : Int)) ∨ ((i : Int) < (lm.length : Int) ∧ ¬ ((i : Int) < 60)) := by omega
        clear hil
        rcases hNo with hNo | ⟨hNo1, hNo⟩
        · go_wp2
          go_ret
          exact ⟨rfl, HB.out.1⟩
        · go_wp2
          go_ret
          exact ⟨rfl, HB.out.1⟩

end Go.Proofs.Ytgbicdaljnegfaa
