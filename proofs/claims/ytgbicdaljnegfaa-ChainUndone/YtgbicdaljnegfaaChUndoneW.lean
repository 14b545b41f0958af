/-
  Walks of layer chain's laws: ChainUndone.
-/
import Derived.Test.YtgbicdaljnegfaaChRun
namespace Go.Proofs.Ytgbicdaljnegfaa
open Go.RowKit

set_option maxRecDepth 100000 in
set_option maxHeartbeats 8000000 in
theorem ChainUndone_walk (K : ChainOk) (w : World) (vd : Value) (ld : List Dd10) (G0 : Nat → Prop) (kd ts : Int) (val : ByteArray) (t0 : -9223372036854775808 ≤ ts) (t1 : ts ≤ 9223372036854775807) (hD : Dds10 w G0 vd ld) (hG0 : ∀ b, G0 b → b < w.heap.size) :
    Calls Try.prog 7 #[vd, .agg #[.int .i64 kd, .int .i64 ts, .string val]] w fun e w' => e = .returned (.bool true) ∧ Below w.heap.size w w' := by
  have HD := Lib.hid hD
  obtain ⟨Ad, capd, rfl, hcd⟩ := hD.form
  clear hD
  have hb0 : Below w.heap.size w (w.alloc (.cells #[.int .i64 kd, .int .i64 ts, .string val] 51)) := (Below.refl _ _).alloc (Nat.le_refl _) _
  have HA := Lib.hid (awake10_any K (w.alloc (.cells #[.int .i64 kd, .int .i64 ts, .string val] 51)))
  have HP0 := Lib.hid (Bk.new w [.int .i64 kd, .int .i64 ts, .string val] 51 rfl)
  have HB00 := Lib.hid hb0
  have HRun : Hid (∀ W, Below w.heap.size w W → Calls Try.prog 27 #[.slice Ad ld.length capd] W fun e w' => ∃ v', e = .returned v' ∧ (∃ c, Lc w' v' c ∧ Cn.J c ∧ c.length ≤ 61) ∧ Below W.heap.size W w') := Lib.hid (fun W hb => run10_any K (HD.out.below hb hG0) (fun b q => Nat.lt_of_lt_of_le (hG0 b q) hb.size))
  clear hb0
  go_enter Try.func7, Try.ntmps7
  go_wp2_with (first
    | (go_at_call 9; refine HA.out.mono ?_; rintro e w1 ⟨rfl, b1⟩; have HP1 := Lib.hid (HP0.out.step b1); have HB1 := Lib.hid (below_two HB00.out b1); clear b1)
    | (go_at_call 27; refine (HRun.out _ HB1.out).mono ?_; rintro e w2 ⟨v2, rfl, hc2, b2⟩; have HP2 := Lib.hid (HP1.out.step b2); have p1 := HP2.out.cell 1 _ rfl; have HB2 := Lib.hid (below_two HB1.out b2); obtain ⟨c, hc, hj, hl⟩ := hc2; obtain ⟨A, cap, rfl, hcap⟩ := Lc.form hc; have HC2 := Lib.hid hc; have HJ := Lib.hid hj; have HK := Lib.hid (K.lookL hc (by omega) ts t0 t1); clear hc hj b2)
    | (go_at_call 17; refine HK.out.mono ?_; rintro e w3 ⟨rfl, b3⟩; have HP := Lib.hid (HP2.out.step b3); have HB3 := Lib.hid (below_two HB2.out b3); have HC3 := Lib.hid (HC2.out.below b3); clear b3))
  clear HA HRun HB00 HP0 HP1 HP2 HB1 HB2 HC2 HK p1
  have p1 := HP.out.cell 1 _ rfl
  by_cases h1 : ts < 1
  · have d1 : decide (ts < 1) = true := decide_eq_true h1
    generalize Cn.look c ts = lk at *
    go_quiet (fail)
    rename_i nq
    go_wp2
    go_ret
    exact ⟨rfl, below_two HB3.out (still_b nq)⟩
  · have d1 : decide (ts < 1) = false := decide_eq_false h1
    obtain ⟨a, v, b, hs⟩ := HJ.out.sp (ts := ts) (by omega)
    have hk := hs.lt
    have hlk := Cn.look_some (hs.at_ HJ.out.may)
    rw [hlk]
    obtain ⟨ad, _, ea, _, _, y0, _, _, _⟩ := HC3.out.nth a.length hk
    cases ea
    rw [hs.get hk] at y0
    have HSp := Lib.hid hs
    clear hlk hs
    generalize hka : a.length = k at *
    have HKa := Lib.hid hka
    clear hka
    have d2 : decide ((k : Int) < 0) = false := decide_eq_false (by omega)
    have d3 : decide ((k : Int) ≥ (c.length : Int)) = false := decide_eq_false (by omega)
    have d3' : decide ((c.length : Int) ≤ (k : Int)) = false := decide_eq_false (by omega)
    have hk0 : (0 : Int) ≤ (k : Int) := by omega
    have hk1 : (k : Int) < (c.length : Int) := by omega
    by_cases h2 : v.ts = ts
    · have d4 : (v.ts == ts) = true := by simpa using h2
      clear h2
      generalize v.ts = vt at *
      go_quiet (fail)
      rename_i nq
      go_wp2
      go_ret
      exact ⟨rfl, below_two HB3.out (still_b nq)⟩
    · have d4 : (v.ts == ts) = false := by simpa using h2
      have HU := Lib.hid (Cn.undone (val := val) HJ.out.may HSp.out h2)
      have HM2 := Lib.hid (Cn.may_write HJ.out.may ts val)
      have HS2 := Lib.hid (Cn.stays (t := ts) HM2.out)
      have HWL : Hid ((Cn.writeC c ts val).length ≤ 62) := Lib.hid (by have := Cn.write_len_le c ts val; omega)
      have HCL : Hid ((Cn.commitC (Cn.writeC c ts val) ts).length ≤ 62) := Lib.hid (by rw [Cn.commit_len]; exact HWL.out)
      have HAL : Hid (Lc w3 (.slice (some ad) c.length cap) c → True) := Lib.hid (fun _ => trivial)
      clear HAL
      have RE : Hid (∀ (c' : Cn.Ch) W va, c'.length ≤ 1000 → Lc W va c' → Calls Try.prog 20 #[va] W fun e w' => ∃ v', e = .returned v' ∧ Lc w' v' c' ∧ Below W.heap.size W w') := Lib.hid (fun c' W va hl h1 => realL h1 (by omega))
      have SM : Hid (∀ (c' : Cn.Ch) W va vb, c'.length ≤ 1000 → Lc W va c' → Lc W vb c' → Calls Try.prog 19 #[va, vb] W fun e w' => e = .returned (.bool true) ∧ Below W.heap.size W w') := Lib.hid (fun c' W va vb hl h1 h2 => sameL h1 h2 (by omega))
      have AB1 : Hid (∀ W v', Lc W v' (Cn.writeC c ts val) → Calls Try.prog 23 #[v', .int .i64 ts] W fun e w' => ∃ v'', e = .returned v'' ∧ Lc w' v'' c ∧ Below W.heap.size W w') := Lib.hid (fun W v' h => by
        have := K.abortL h (by have := HWL.out; omega) ts t0 t1
        rw [HU.out] at this
        exact this)
      have HCl : Hid (c.length ≤ 61) := Lib.hid hl
      cases hlt : Cn.lateV v ts with
      | true =>
        have HE := Lib.hid (HSp.out.late (val := val) HJ.out.may hlt)
        clear hlt h2
        generalize v.ts = vt at *
        have WD : Hid (∀ W v', Lc W v' c → Calls Try.prog 13 #[v', .int .i64 ts, .string val] W fun e w' => ∃ v'', e = .returned (.tuple #[v'', .int .i64 8]) ∧ Lc w' v'' (Cn.writeC c ts val) ∧ Below W.heap.size W w') := Lib.hid (fun W v' h => by
          have := K.writeL h (by omega) ts val t0 t1
          rw [HE.out.2] at this
          exact this)
        go_quiet (fail)
        rename_i nq
        have HL9 := Lib.hid (HC3.out.below (still_b nq))
        have HB9 := Lib.hid (below_two HB3.out (still_b nq))
        have HP := Lib.hid (HP.out.step (still_b nq))
        clear p1 y0 HC3 HB3
        have p1 := HP.out.cell 1 _ rfl
        have p2 := HP.out.cell 2 _ rfl
        generalize w3.drewN nq = w9 at *
        go_wp2_with (first
          | (go_at_call 13; with_reducible refine (WD.out _ _ (HL9.out)).mono ?_; rintro e w10 ⟨x8, rfl, h8, b10⟩; have HP := Lib.hid (HP.out.step b10); have HL10 := Lib.hid (And.intro ((HL9.out).below b10) (h8)); have HB10 := Lib.hid (below_two HB9.out b10); clear p1 p2; have p1 := HP.out.cell 1 _ rfl; have p2 := HP.out.cell 2 _ rfl; clear b10 h8)
          | (go_at_call 21; with_reducible refine (K.commitL (HL10.out.2) (Nat.le_trans HWL.out (by decide)) ts t0 t1).mono ?_; rintro e w11 ⟨x10, rfl, h10, b11⟩; have HP := Lib.hid (HP.out.step b11); have HL11 := Lib.hid (And.intro ((HL10.out.1).below b11) (And.intro ((HL10.out.2).below b11) (h10))); have HB11 := Lib.hid (below_two HB10.out b11); clear p1 p2; have p1 := HP.out.cell 1 _ rfl; have p2 := HP.out.cell 2 _ rfl; clear b11 h10)
          | (go_at_call 23; with_reducible refine (AB1.out _ _ (HL11.out.2.1)).mono ?_; rintro e w12 ⟨x11, rfl, h11, b12⟩; have HP := Lib.hid (HP.out.step b12); have HL12 := Lib.hid (And.intro ((HL11.out.1).below b12) (And.intro ((HL11.out.2.1).below b12) (And.intro ((HL11.out.2.2).below b12) (h11)))); have HB12 := Lib.hid (below_two HB11.out b12); clear p1 p2; have p1 := HP.out.cell 1 _ rfl; have p2 := HP.out.cell 2 _ rfl; clear b12 h11)
          | (go_at_call 20; with_reducible refine (RE.out _ _ _ (Nat.le_trans HCl.out (by decide)) (HL12.out.2.2.2)).mono ?_; rintro e w13 ⟨x12, rfl, h12, b13⟩; have HP := Lib.hid (HP.out.step b13); have HL13 := Lib.hid (And.intro ((HL12.out.1).below b13) (And.intro ((HL12.out.2.1).below b13) (And.intro ((HL12.out.2.2.1).below b13) (And.intro ((HL12.out.2.2.2).below b13) (h12))))); have HB13 := Lib.hid (below_two HB12.out b13); clear p1 p2; have p1 := HP.out.cell 1 _ rfl; have p2 := HP.out.cell 2 _ rfl; clear b13 h12)
          | (go_at_call 20; with_reducible refine (RE.out _ _ _ (Nat.le_trans HCl.out (by decide)) (HL13.out.1)).mono ?_; rintro e w14 ⟨x13, rfl, h13, b14⟩; have HP := Lib.hid (HP.out.step b14); have HL14 := Lib.hid (And.intro ((HL13.out.1).below b14) (And.intro ((HL13.out.2.1).below b14) (And.intro ((HL13.out.2.2.1).below b14) (And.intro ((HL13.out.2.2.2.1).below b14) (And.intro ((HL13.out.2.2.2.2).below b14) (h13)))))); have HB14 := Lib.hid (below_two HB13.out b14); clear p1 p2; have p1 := HP.out.cell 1 _ rfl; have p2 := HP.out.cell 2 _ rfl; clear b14 h13)
          | (go_at_call 19; with_reducible refine (SM.out _ _ _ _ (Nat.le_trans HCl.out (by decide)) (HL14.out.2.2.2.2.1) (HL14.out.2.2.2.2.2)).mono ?_; rintro e w15 ⟨rfl, b15⟩; have HP := Lib.hid (HP.out.step b15); have HL15 := Lib.hid (And.intro ((HL14.out.1).below b15) (And.intro ((HL14.out.2.1).below b15) (And.intro ((HL14.out.2.2.1).below b15) (And.intro ((HL14.out.2.2.2.1).below b15) (And.intro ((HL14.out.2.2.2.2.1).below b15) ((HL14.out.2.2.2.2.2).below b15)))))); have HB15 := Lib.hid (below_two HB14.out b15); clear p1 p2; have p1 := HP.out.cell 1 _ rfl; have p2 := HP.out.cell 2 _ rfl; clear b15))
        go_ret
        exact ⟨rfl, HB15.out⟩
      | false =>
        have HE := Lib.hid (HSp.out.new (val := val) HJ.out.may hlt h2)
        have HLen : Hid ((Cn.commitC (Cn.writeC c ts val) ts).length = c.length + 1) := Lib.hid (by rw [Cn.commit_len]; exact Cn.wrote_len HJ.out.may HSp.out h2 hlt)
        clear hlt h2
        generalize v.ts = vt at *
        have WD : Hid (∀ W v', Lc W v' c → Calls Try.prog 13 #[v', .int .i64 ts, .string val] W fun e w' => ∃ v'', e = .returned (.tuple #[v'', .int .i64 0]) ∧ Lc w' v'' (Cn.writeC c ts val) ∧ Below W.heap.size W w') := Lib.hid (fun W v' h => by
          have := K.writeL h (by omega) ts val t0 t1
          rw [HE.out.2] at this
          exact this)
        have CM : Hid (∀ W v', Lc W v' (Cn.writeC c ts val) → Calls Try.prog 21 #[v', .int .i64 ts] W fun e w' => ∃ A cap, e = .returned (.slice A (c.length + 1) cap) ∧ Lc w' (.slice A (c.length + 1) cap) (Cn.commitC (Cn.writeC c ts val) ts) ∧ Below W.heap.size W w') := Lib.hid (fun W v' h => (K.commitL h (by have := HWL.out; omega) ts t0 t1).mono (fun _ _ hh => by
          obtain ⟨v'', rfl, hs, hb⟩ := hh
          obtain ⟨A, cap, rfl, _⟩ := Lc.form hs
          rw [HLen.out] at hs ⊢
          exact ⟨A, cap, rfl, hs, hb⟩))
        have AB2 : Hid (∀ W v', Lc W v' (Cn.commitC (Cn.writeC c ts val) ts) → Calls Try.prog 23 #[v', .int .i64 ts] W fun e w' => ∃ v'', e = .returned v'' ∧ Lc w' v'' (Cn.commitC (Cn.writeC c ts val) ts) ∧ Below W.heap.size W w') := Lib.hid (fun W v' h => by
          have := K.abortL h (by have := HCL.out; omega) ts t0 t1
          rw [HS2.out] at this
          exact this)
        have hw1 : IntKind.i64.wrap ((c.length : Int) + 1) = (c.length : Int) + 1 := IntWalk.i64_in _ (by omega)
        go_quiet (fail)
        rename_i nq
        have HL9 := Lib.hid (HC3.out.below (still_b nq))
        have HB9 := Lib.hid (below_two HB3.out (still_b nq))
        have HP := Lib.hid (HP.out.step (still_b nq))
        clear p1 y0 HC3 HB3
        have p1 := HP.out.cell 1 _ rfl
        have p2 := HP.out.cell 2 _ rfl
        generalize w3.drewN nq = w9 at *
        go_wp2_with (first
          | (go_at_call 13; with_reducible refine (WD.out _ _ (HL9.out)).mono ?_; rintro e w10 ⟨x8, rfl, h8, b10⟩; have HP := Lib.hid (HP.out.step b10); have HL10 := Lib.hid (And.intro ((HL9.out).below b10) (h8)); have HB10 := Lib.hid (below_two HB9.out b10); clear p1 p2; have p1 := HP.out.cell 1 _ rfl; have p2 := HP.out.cell 2 _ rfl; clear b10 h8)
          | (go_at_call 21; with_reducible refine (CM.out _ _ (HL10.out.2)).mono ?_; rintro e w11 ⟨Ay, cy, rfl, h10, b11⟩; have HP := Lib.hid (HP.out.step b11); have HL11 := Lib.hid (And.intro ((HL10.out.1).below b11) (And.intro ((HL10.out.2).below b11) (h10))); have HB11 := Lib.hid (below_two HB10.out b11); clear p1 p2; have p1 := HP.out.cell 1 _ rfl; have p2 := HP.out.cell 2 _ rfl; clear b11 h10)
          | (go_at_call 23; with_reducible refine (AB1.out _ _ (HL11.out.2.1)).mono ?_; rintro e w12 ⟨x11, rfl, h11, b12⟩; have HP := Lib.hid (HP.out.step b12); have HL12 := Lib.hid (And.intro ((HL11.out.1).below b12) (And.intro ((HL11.out.2.1).below b12) (And.intro ((HL11.out.2.2).below b12) (h11)))); have HB12 := Lib.hid (below_two HB11.out b12); clear p1 p2; have p1 := HP.out.cell 1 _ rfl; have p2 := HP.out.cell 2 _ rfl; clear b12 h11)
          | (go_at_call 20; with_reducible refine (RE.out _ _ _ (Nat.le_trans HCl.out (by decide)) (HL12.out.2.2.2)).mono ?_; rintro e w13 ⟨x12, rfl, h12, b13⟩; have HP := Lib.hid (HP.out.step b13); have HL13 := Lib.hid (And.intro ((HL12.out.1).below b13) (And.intro ((HL12.out.2.1).below b13) (And.intro ((HL12.out.2.2.1).below b13) (And.intro ((HL12.out.2.2.2).below b13) (h12))))); have HB13 := Lib.hid (below_two HB12.out b13); clear p1 p2; have p1 := HP.out.cell 1 _ rfl; have p2 := HP.out.cell 2 _ rfl; clear b13 h12)
          | (go_at_call 20; with_reducible refine (RE.out _ _ _ (Nat.le_trans HCl.out (by decide)) (HL13.out.1)).mono ?_; rintro e w14 ⟨x13, rfl, h13, b14⟩; have HP := Lib.hid (HP.out.step b14); have HL14 := Lib.hid (And.intro ((HL13.out.1).below b14) (And.intro ((HL13.out.2.1).below b14) (And.intro ((HL13.out.2.2.1).below b14) (And.intro ((HL13.out.2.2.2.1).below b14) (And.intro ((HL13.out.2.2.2.2).below b14) (h13)))))); have HB14 := Lib.hid (below_two HB13.out b14); clear p1 p2; have p1 := HP.out.cell 1 _ rfl; have p2 := HP.out.cell 2 _ rfl; clear b14 h13)
          | (go_at_call 19; with_reducible refine (SM.out _ _ _ _ (Nat.le_trans HCl.out (by decide)) (HL14.out.2.2.2.2.1) (HL14.out.2.2.2.2.2)).mono ?_; rintro e w15 ⟨rfl, b15⟩; have HP := Lib.hid (HP.out.step b15); have HL15 := Lib.hid (And.intro ((HL14.out.1).below b15) (And.intro ((HL14.out.2.1).below b15) (And.intro ((HL14.out.2.2.1).below b15) (And.intro ((HL14.out.2.2.2.1).below b15) (And.intro ((HL14.out.2.2.2.2.1).below b15) ((HL14.out.2.2.2.2.2).below b15)))))); have HB15 := Lib.hid (below_two HB14.out b15); clear p1 p2; have p1 := HP.out.cell 1 _ rfl; have p2 := HP.out.cell 2 _ rfl; clear b15)
          | (go_at_call 23; with_reducible refine (AB2.out _ _ (HL15.out.2.2.1)).mono ?_; rintro e w16 ⟨x14, rfl, h14, b16⟩; have HP := Lib.hid (HP.out.step b16); have HL16 := Lib.hid (And.intro ((HL15.out.1).below b16) (And.intro ((HL15.out.2.1).below b16) (And.intro ((HL15.out.2.2.1).below b16) (And.intro ((HL15.out.2.2.2.1).below b16) (And.intro ((HL15.out.2.2.2.2.1).below b16) (And.intro ((HL15.out.2.2.2.2.2).below b16) (h14))))))); have HB16 := Lib.hid (below_two HB15.out b16); clear p1 p2; have p1 := HP.out.cell 1 _ rfl; have p2 := HP.out.cell 2 _ rfl; clear b16 h14)
          | (go_at_call 20; with_reducible refine (RE.out _ _ _ (Nat.le_trans HCL.out (by decide)) (HL16.out.2.2.2.2.2.2)).mono ?_; rintro e w17 ⟨x15, rfl, h15, b17⟩; have HP := Lib.hid (HP.out.step b17); have HL17 := Lib.hid (And.intro ((HL16.out.1).below b17) (And.intro ((HL16.out.2.1).below b17) (And.intro ((HL16.out.2.2.1).below b17) (And.intro ((HL16.out.2.2.2.1).below b17) (And.intro ((HL16.out.2.2.2.2.1).below b17) (And.intro ((HL16.out.2.2.2.2.2.1).below b17) (And.intro ((HL16.out.2.2.2.2.2.2).below b17) (h15)))))))); have HB17 := Lib.hid (below_two HB16.out b17); clear p1 p2; have p1 := HP.out.cell 1 _ rfl; have p2 := HP.out.cell 2 _ rfl; clear b17 h15)
          | (go_at_call 20; with_reducible refine (RE.out _ _ _ (Nat.le_trans HCL.out (by decide)) (HL17.out.2.2.1)).mono ?_; rintro e w18 ⟨x16, rfl, h16, b18⟩; have HP := Lib.hid (HP.out.step b18); have HL18 := Lib.hid (And.intro ((HL17.out.1).below b18) (And.intro ((HL17.out.2.1).below b18) (And.intro ((HL17.out.2.2.1).below b18) (And.intro ((HL17.out.2.2.2.1).below b18) (And.intro ((HL17.out.2.2.2.2.1).below b18) (And.intro ((HL17.out.2.2.2.2.2.1).below b18) (And.intro ((HL17.out.2.2.2.2.2.2.1).below b18) (And.intro ((HL17.out.2.2.2.2.2.2.2).below b18) (h16))))))))); have HB18 := Lib.hid (below_two HB17.out b18); clear p1 p2; have p1 := HP.out.cell 1 _ rfl; have p2 := HP.out.cell 2 _ rfl; clear b18 h16)
          | (go_at_call 19; with_reducible refine (SM.out _ _ _ _ (Nat.le_trans HCL.out (by decide)) (HL18.out.2.2.2.2.2.2.2.1) (HL18.out.2.2.2.2.2.2.2.2)).mono ?_; rintro e w19 ⟨rfl, b19⟩; have HP := Lib.hid (HP.out.step b19); have HL19 := Lib.hid (And.intro ((HL18.out.1).below b19) (And.intro ((HL18.out.2.1).below b19) (And.intro ((HL18.out.2.2.1).below b19) (And.intro ((HL18.out.2.2.2.1).below b19) (And.intro ((HL18.out.2.2.2.2.1).below b19) (And.intro ((HL18.out.2.2.2.2.2.1).below b19) (And.intro ((HL18.out.2.2.2.2.2.2.1).below b19) (And.intro ((HL18.out.2.2.2.2.2.2.2.1).below b19) ((HL18.out.2.2.2.2.2.2.2.2).below b19))))))))); have HB19 := Lib.hid (below_two HB18.out b19); clear p1 p2; have p1 := HP.out.cell 1 _ rfl; have p2 := HP.out.cell 2 _ rfl; clear b19))
        go_ret
        exact ⟨rfl, HB19.out⟩

end Go.Proofs.Ytgbicdaljnegfaa
