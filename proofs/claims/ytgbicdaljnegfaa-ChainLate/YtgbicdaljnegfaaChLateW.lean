/-
  Walks of layer chain's laws: ChainLate.
-/
import Derived.Test.YtgbicdaljnegfaaChRun
namespace Go.Proofs.Ytgbicdaljnegfaa
open Go.RowKit

theorem look_at (K : ChainOk) {w : World} {v : Value} {c a b : Cn.Ch} {x : Cn.Vr} {ts : Int} (h : Lc w v c) (hl : c.length ≤ 1000) (t0 : -9223372036854775808 ≤ ts) (t1 : ts ≤ 9223372036854775807) (hs : Cn.Sp c ts a x b) (hm : Cn.May c) : Calls Try.prog 17 #[v, .int .i64 ts] w fun e w' => e = .returned (.int .i64 (a.length : Int)) ∧ Below w.heap.size w w' := by
  have := K.lookL h hl ts t0 t1
  rw [Cn.look_some (hs.at_ hm)] at this
  exact this

set_option maxRecDepth 100000 in
set_option maxHeartbeats 16000000 in
theorem ChainLate_walk (K : ChainOk) (w : World) (vd : Value) (ld : List Dd10) (G0 : Nat → Prop) (kd ts : Int) (val : ByteArray) (t0 : -9223372036854775808 ≤ ts) (t1 : ts ≤ 9223372036854775807) (hD : Dds10 w G0 vd ld) (hG0 : ∀ b, G0 b → b < w.heap.size) :
    Calls Try.prog 6 #[vd, .agg #[.int .i64 kd, .int .i64 ts, .string val]] w fun e w' => e = .returned (.bool true) ∧ Below w.heap.size w w' := by
  have HD := Lib.hid hD
  obtain ⟨Ad, capd, rfl, hcd⟩ := hD.form
  clear hD
  have hb0 : Below w.heap.size w (w.alloc (.cells #[.int .i64 kd, .int .i64 ts, .string val] 51)) := (Below.refl _ _).alloc (Nat.le_refl _) _
  have HA := Lib.hid (awake10_any K (w.alloc (.cells #[.int .i64 kd, .int .i64 ts, .string val] 51)))
  have HP0 := Lib.hid (Bk.new w [.int .i64 kd, .int .i64 ts, .string val] 51 rfl)
  have HB00 := Lib.hid hb0
  have HRun : Hid (∀ W, Below w.heap.size w W → Calls Try.prog 27 #[.slice Ad ld.length capd] W fun e w' => ∃ v', e = .returned v' ∧ (∃ c, Lc w' v' c ∧ Cn.J c ∧ c.length ≤ 61) ∧ Below W.heap.size W w') := Lib.hid (fun W hb => run10_any K (HD.out.below hb hG0) (fun b q => Nat.lt_of_lt_of_le (hG0 b q) hb.size))
  clear hb0
  by_cases h1 : ts < 1
  · have d1 : decide (ts < 1) = true := decide_eq_true h1
    go_enter Try.func6, Try.ntmps6
    go_wp2_with (first
      | (go_at_call 9; refine HA.out.mono ?_; rintro e w1 ⟨rfl, b1⟩; have HP1 := Lib.hid (HP0.out.step b1); have HB1 := Lib.hid (below_two HB00.out b1); clear b1)
      | (go_at_call 27; refine (HRun.out _ HB1.out).mono ?_; rintro e w2 ⟨v2, rfl, hc2, b2⟩; have HP2 := Lib.hid (HP1.out.step b2); have p1 := HP2.out.cell 1 _ rfl; have HB2 := Lib.hid (below_two HB1.out b2); obtain ⟨c, hc, hj, hl⟩ := hc2; obtain ⟨A, cap, rfl, hcap⟩ := Lc.form hc; obtain ⟨f, r, rfl, _, _⟩ := hj.first; have hn : (f :: r).length > 0 := (by simp); have hn2 : (((f :: r).length : Nat) : Int) > 0 := (by omega); clear hc b2))
    go_ret
    exact ⟨ret_v (v_bool (by first | rfl | simp)), HB2.out⟩
  · by_cases h2 : ts > 1099511627776
    · have d1 : decide (ts < 1) = false := decide_eq_false h1
      have d2 : decide (ts > 1099511627776) = true := decide_eq_true h2
      go_enter Try.func6, Try.ntmps6
      go_wp2_with (first
        | (go_at_call 9; refine HA.out.mono ?_; rintro e w1 ⟨rfl, b1⟩; have HP1 := Lib.hid (HP0.out.step b1); have HB1 := Lib.hid (below_two HB00.out b1); clear b1)
        | (go_at_call 27; refine (HRun.out _ HB1.out).mono ?_; rintro e w2 ⟨v2, rfl, hc2, b2⟩; have HP2 := Lib.hid (HP1.out.step b2); have p1 := HP2.out.cell 1 _ rfl; have HB2 := Lib.hid (below_two HB1.out b2); obtain ⟨c, hc, hj, hl⟩ := hc2; obtain ⟨A, cap, rfl, hcap⟩ := Lc.form hc; obtain ⟨f, r, rfl, _, _⟩ := hj.first; have hn : (f :: r).length > 0 := (by simp); have hn2 : (((f :: r).length : Nat) : Int) > 0 := (by omega); clear hc b2))
      go_ret
      exact ⟨ret_v (v_bool (by first | rfl | simp)), HB2.out⟩
    · have d1 : decide (ts < 1) = false := decide_eq_false h1
      have d2 : decide (ts > 1099511627776) = false := decide_eq_false h2
      have u0 : 1 ≤ ts := by omega
      have u1 : ts ≤ 1099511627776 := by omega
      go_enter Try.func6, Try.ntmps6
      go_wp2_with (first
        | (go_at_call 9; refine HA.out.mono ?_; rintro e w1 ⟨rfl, b1⟩; have HP1 := Lib.hid (HP0.out.step b1); have HB1 := Lib.hid (below_two HB00.out b1); clear b1)
        | (go_at_call 27; refine (HRun.out _ HB1.out).mono ?_; rintro e w2 ⟨v2, rfl, hc2, b2⟩; have HP2 := Lib.hid (HP1.out.step b2); have p1 := HP2.out.cell 1 _ rfl; have HB2 := Lib.hid (below_two HB1.out b2); obtain ⟨c, hc, hj, hl⟩ := hc2; obtain ⟨A, cap, rfl, hcap⟩ := Lc.form hc; have HC2 := Lib.hid hc; have HJ := Lib.hid hj; obtain ⟨a, v, b, hs⟩ := hj.sp (ts := ts) (by omega); have HSp := Lib.hid hs; have hk := hs.lt; have HK := Lib.hid (look_at K hc (by omega) t0 t1 hs hj.may); have n1 : ((c.length : Int) == 0) = false := (by simp; intro e; subst e; simp at hk); have n2 : ¬ (c.length : Int) = 0 := (by omega); have n3 : decide ((a.length : Int) < 0) = false := decide_eq_false (by omega); have n4 : decide ((a.length : Int) ≥ (c.length : Int)) = false := decide_eq_false (by omega); have n5 : ¬ (c.length : Int) ≤ (a.length : Int) := (by omega); have n6 : ¬ c.length ≤ a.length := (by omega); clear hc hj b2 hs)
        | (go_at_call 17; refine HK.out.mono ?_; rintro e w3 ⟨rfl, b3⟩; have HP := Lib.hid (HP2.out.step b3); have HB3 := Lib.hid (below_two HB2.out b3); have HC3 := Lib.hid (HC2.out.below b3); clear b3))
      clear HA HRun HB00 HP0 HP1 HP2 HB1 HB2 HC2 HK p1 n1 n2 n3 n4 n5 n6
      have p1 := HP.out.cell 1 _ rfl
      obtain ⟨ad, _, ea, _, _, y0, y1, _, y3⟩ := HC3.out.nth a.length hk
      cases ea
      rw [HSp.out.get hk] at y0 y1 y3
      generalize hka : a.length = k at *
      have HKa := Lib.hid hka
      clear hka
      have hk0 : (0 : Int) ≤ (k : Int) := by omega
      have hk1 : (k : Int) < (c.length : Int) := by omega
      have HCl : Hid (c.length ≤ 61) := Lib.hid hl
      have RE : Hid (∀ (c' : Cn.Ch) W va, c'.length ≤ 1000 → Lc W va c' → Calls Try.prog 20 #[va] W fun e w' => ∃ v', e = .returned v' ∧ Lc w' v' c' ∧ Below W.heap.size W w') := Lib.hid (fun c' W va hl h1 => realL h1 (by omega))
      have SM : Hid (∀ (c' : Cn.Ch) W va vb, c'.length ≤ 1000 → Lc W va c' → Lc W vb c' → Calls Try.prog 19 #[va, vb] W fun e w' => e = .returned (.bool true) ∧ Below W.heap.size W w') := Lib.hid (fun c' W va vb hl h1 h2 => sameL h1 h2 (by omega))
      have HWL : Hid ((Cn.writeC c ts val).length ≤ 62) := Lib.hid (by have := Cn.write_len_le c ts val; omega)
      by_cases hr : v.rd > ts
      · have f1 : decide (v.rd > ts) = true := decide_eq_true hr
        have f1' : decide (ts < v.rd) = true := decide_eq_true hr
        have hlt : Cn.lateV v ts = true := by unfold Cn.lateV; simp [hr]
        have HE := Lib.hid (HSp.out.late (val := val) HJ.out.may hlt)
        have WD : Hid (∀ W v', Lc W v' c → Calls Try.prog 13 #[v', .int .i64 ts, .string val] W fun e w' => ∃ v'', e = .returned (.tuple #[v'', .int .i64 8]) ∧ Lc w' v'' c ∧ Below W.heap.size W w') := Lib.hid (fun W v' h => by
          have := K.writeL h (by omega) ts val t0 t1
          rw [HE.out.1, HE.out.2] at this
          exact this)
        clear hlt
        try clear ho
        try clear hd
        generalize v.ts = vt at *
        generalize v.rd = vr at *
        go_quiet (fail)
        rename_i nq
        have HL9 := Lib.hid (HC3.out.below (still_b nq))
        have HB9 := Lib.hid (below_two HB3.out (still_b nq))
        have HP := Lib.hid (HP.out.step (still_b nq))
        clear p1 y0 y1 y3 HC3 HB3
        have p1 := HP.out.cell 1 _ rfl
        have p2 := HP.out.cell 2 _ rfl
        generalize w3.drewN nq = w9 at *
        go_wp2_with (first
          | (go_at_call 13; with_reducible refine (WD.out _ _ (HL9.out)).mono ?_; rintro e w10 ⟨x8, rfl, h8, b10⟩; have HP := Lib.hid (HP.out.step b10); have HL10 := Lib.hid (And.intro ((HL9.out).below b10) (h8)); have HB10 := Lib.hid (below_two HB9.out b10); clear p1 p2; have p1 := HP.out.cell 1 _ rfl; have p2 := HP.out.cell 2 _ rfl; clear b10 h8)
          | (go_at_call 20; with_reducible refine (RE.out _ _ _ (Nat.le_trans HCl.out (by decide)) (HL10.out.2)).mono ?_; rintro e w11 ⟨x12, rfl, h12, b11⟩; have HP := Lib.hid (HP.out.step b11); have HL11 := Lib.hid (And.intro ((HL10.out.1).below b11) (And.intro ((HL10.out.2).below b11) (h12))); have HB11 := Lib.hid (below_two HB10.out b11); clear p1 p2; have p1 := HP.out.cell 1 _ rfl; have p2 := HP.out.cell 2 _ rfl; clear b11 h12)
          | (go_at_call 20; with_reducible refine (RE.out _ _ _ (Nat.le_trans HCl.out (by decide)) (HL11.out.1)).mono ?_; rintro e w12 ⟨x13, rfl, h13, b12⟩; have HP := Lib.hid (HP.out.step b12); have HL12 := Lib.hid (And.intro ((HL11.out.1).below b12) (And.intro ((HL11.out.2.1).below b12) (And.intro ((HL11.out.2.2).below b12) (h13)))); have HB12 := Lib.hid (below_two HB11.out b12); clear p1 p2; have p1 := HP.out.cell 1 _ rfl; have p2 := HP.out.cell 2 _ rfl; clear b12 h13)
          | (go_at_call 19; with_reducible refine (SM.out _ _ _ _ (Nat.le_trans HCl.out (by decide)) (HL12.out.2.2.1) (HL12.out.2.2.2)).mono ?_; rintro e w13 ⟨rfl, b13⟩; have HP := Lib.hid (HP.out.step b13); have HL13 := Lib.hid (And.intro ((HL12.out.1).below b13) (And.intro ((HL12.out.2.1).below b13) (And.intro ((HL12.out.2.2.1).below b13) ((HL12.out.2.2.2).below b13)))); have HB13 := Lib.hid (below_two HB12.out b13); clear p1 p2; have p1 := HP.out.cell 1 _ rfl; have p2 := HP.out.cell 2 _ rfl; clear b13))
        go_ret
        exact ⟨rfl, HB13.out⟩
      · have f1 : decide (v.rd > ts) = false := decide_eq_false hr
        have f1' : decide (ts < v.rd) = false := decide_eq_false hr
        have hr2 : ¬ ts < v.rd := by omega
        by_cases ho : v.ts = ts
        · have f2 : (v.ts == ts) = true := by simpa using ho
          cases hd : v.done with
          | true =>
            have hlt : Cn.lateV v ts = true := by unfold Cn.lateV; simp [ho, hd]
            rw [hd] at y3
            have HE := Lib.hid (HSp.out.late (val := val) HJ.out.may hlt)
            have WD : Hid (∀ W v', Lc W v' c → Calls Try.prog 13 #[v', .int .i64 ts, .string val] W fun e w' => ∃ v'', e = .returned (.tuple #[v'', .int .i64 8]) ∧ Lc w' v'' c ∧ Below W.heap.size W w') := Lib.hid (fun W v' h => by
              have := K.writeL h (by omega) ts val t0 t1
              rw [HE.out.1, HE.out.2] at this
              exact this)
            clear hlt
            try clear ho
            try clear hd
            generalize v.ts = vt at *
            generalize v.rd = vr at *
            go_quiet (fail)
            rename_i nq
            have HL9 := Lib.hid (HC3.out.below (still_b nq))
            have HB9 := Lib.hid (below_two HB3.out (still_b nq))
            have HP := Lib.hid (HP.out.step (still_b nq))
            clear p1 y0 y1 y3 HC3 HB3
            have p1 := HP.out.cell 1 _ rfl
            have p2 := HP.out.cell 2 _ rfl
            generalize w3.drewN nq = w9 at *
            go_wp2_with (first
              | (go_at_call 13; with_reducible refine (WD.out _ _ (HL9.out)).mono ?_; rintro e w10 ⟨x8, rfl, h8, b10⟩; have HP := Lib.hid (HP.out.step b10); have HL10 := Lib.hid (And.intro ((HL9.out).below b10) (h8)); have HB10 := Lib.hid (below_two HB9.out b10); clear p1 p2; have p1 := HP.out.cell 1 _ rfl; have p2 := HP.out.cell 2 _ rfl; clear b10 h8)
              | (go_at_call 20; with_reducible refine (RE.out _ _ _ (Nat.le_trans HCl.out (by decide)) (HL10.out.2)).mono ?_; rintro e w11 ⟨x12, rfl, h12, b11⟩; have HP := Lib.hid (HP.out.step b11); have HL11 := Lib.hid (And.intro ((HL10.out.1).below b11) (And.intro ((HL10.out.2).below b11) (h12))); have HB11 := Lib.hid (below_two HB10.out b11); clear p1 p2; have p1 := HP.out.cell 1 _ rfl; have p2 := HP.out.cell 2 _ rfl; clear b11 h12)
              | (go_at_call 20; with_reducible refine (RE.out _ _ _ (Nat.le_trans HCl.out (by decide)) (HL11.out.1)).mono ?_; rintro e w12 ⟨x13, rfl, h13, b12⟩; have HP := Lib.hid (HP.out.step b12); have HL12 := Lib.hid (And.intro ((HL11.out.1).below b12) (And.intro ((HL11.out.2.1).below b12) (And.intro ((HL11.out.2.2).below b12) (h13)))); have HB12 := Lib.hid (below_two HB11.out b12); clear p1 p2; have p1 := HP.out.cell 1 _ rfl; have p2 := HP.out.cell 2 _ rfl; clear b12 h13)
              | (go_at_call 19; with_reducible refine (SM.out _ _ _ _ (Nat.le_trans HCl.out (by decide)) (HL12.out.2.2.1) (HL12.out.2.2.2)).mono ?_; rintro e w13 ⟨rfl, b13⟩; have HP := Lib.hid (HP.out.step b13); have HL13 := Lib.hid (And.intro ((HL12.out.1).below b13) (And.intro ((HL12.out.2.1).below b13) (And.intro ((HL12.out.2.2.1).below b13) ((HL12.out.2.2.2).below b13)))); have HB13 := Lib.hid (below_two HB12.out b13); clear p1 p2; have p1 := HP.out.cell 1 _ rfl; have p2 := HP.out.cell 2 _ rfl; clear b13))
            go_ret
            exact ⟨rfl, HB13.out⟩
          | false =>
            have hlt : Cn.lateV v ts = false := by unfold Cn.lateV; simp [hr2, hd]
            have HE := Lib.hid (HSp.out.own (val := val) HJ.out.may hlt ho).2
            rw [hd] at y3
            clear hd
            have WD : Hid (∀ W v', Lc W v' c → Calls Try.prog 13 #[v', .int .i64 ts, .string val] W fun e w' => ∃ v'', e = .returned (.tuple #[v'', .int .i64 0]) ∧ Lc w' v'' (Cn.writeC c ts val) ∧ Below W.heap.size W w') := Lib.hid (fun W v' h => by
              have := K.writeL h (by omega) ts val t0 t1
              rw [HE.out] at this
              exact this)
            have RO : Hid (∀ W v', Lc W v' (Cn.writeC c ts val) → Calls Try.prog 11 #[v', .int .i64 ts] W fun e w' => ∃ v'' q, e = .returned (.tuple #[v'', .agg #[.int .i64 ts, .int .i64 q, .string val, .bool false]]) ∧ Lc w' v'' (Cn.readC (Cn.writeC c ts val) ts) ∧ Below W.heap.size W w') := Lib.hid (fun W v' h => (K.readL h (by have := HWL.out; omega) ts t0 t1).mono (fun _ _ hh => by
              obtain ⟨v'', rfl, hs, hb⟩ := hh
              obtain ⟨a1, a2, a3⟩ := Cn.late_own (val := val) HJ.out.may HSp.out hlt
              exact ⟨v'', _, ret_v (by unfold verA; rw [a1, a2, a3]), hs, hb⟩))
            have RA : Hid (∀ W v', Lc W v' (Cn.writeC c ts val) → Calls Try.prog 11 #[v', .int .i64 (ts - 1)] W fun e w' => ∃ v'', e = .returned (.tuple #[v'', .agg #[.int .i64 (Cn.readV c (ts - 1)).ts, .int .i64 (Cn.readV c (ts - 1)).rd, .string (Cn.readV c (ts - 1)).val, .bool (Cn.readV c (ts - 1)).done]]) ∧ Lc w' v'' (Cn.readC (Cn.writeC c ts val) (ts - 1)) ∧ Below W.heap.size W w') := Lib.hid (fun W v' h => by
              obtain ⟨s, hss⟩ := HJ.out.seen (ts := ts - 1) (by omega)
              have := K.readL h (by have := HWL.out; omega) (ts - 1) (by omega) (by omega)
              rw [Cn.late_ahead (val := val) HJ.out.may HSp.out hlt hss] at this
              exact this)
            have RW : Hid (∀ W v', Lc W v' c → Calls Try.prog 11 #[v', .int .i64 (ts - 1)] W fun e w' => ∃ v'', e = .returned (.tuple #[v'', .agg #[.int .i64 (Cn.readV c (ts - 1)).ts, .int .i64 (Cn.readV c (ts - 1)).rd, .string (Cn.readV c (ts - 1)).val, .bool (Cn.readV c (ts - 1)).done]]) ∧ Lc w' v'' (Cn.readC c (ts - 1)) ∧ Below W.heap.size W w') := Lib.hid (fun W v' h => K.readL h (by omega) (ts - 1) (by omega) (by omega))
            generalize Cn.readV c (ts - 1) = r at *
            have HLT := Lib.hid hlt
            clear hlt
            try clear ho
            have hw1 : IntKind.i64.wrap (ts + 1) = ts + 1 := IntWalk.i64_in _ (by omega)
            have hw2 : IntKind.i64.wrap (ts - 1) = ts - 1 := IntWalk.i64_in _ (by omega)
            have hw3 : IntKind.i64.wrap ((k : Int) + 1) = (k : Int) + 1 := IntWalk.i64_in _ (by omega)
            have hk2 : (0 : Int) ≤ (k : Int) + 1 := by omega
            have HVt : Hid (∀ x, x = v.ts → True) := Lib.hid (fun _ _ => trivial)
            clear HVt
            by_cases hnx : k + 1 < c.length
            · have g1 : decide ((k : Int) + 1 < (c.length : Int)) = true := decide_eq_true (by omega)
              have g1' : (k : Int) + 1 < (c.length : Int) := by omega
              by_cases hny : c[k + 1].ts = ts + 1
              · have RB : Hid (∀ W v', Lc W v' (Cn.writeC c ts val) → Calls Try.prog 11 #[v', .int .i64 (ts + 1)] W fun e w' => ∃ v'' a q s z, e = .returned (.tuple #[v'', .agg #[.int .i64 a, .int .i64 q, .string s, .bool z]]) ∧ Lc w' v'' (Cn.readC (Cn.writeC c ts val) (ts + 1)) ∧ Below W.heap.size W w') := Lib.hid (fun W v' h => (K.readL h (by have := HWL.out; omega) (ts + 1) (by omega) (by omega)).mono (fun _ _ hh => by
                  obtain ⟨v'', rfl, hs, hb⟩ := hh
                  exact ⟨v'', _, _, _, _, rfl, hs, hb⟩))
                have g2 : ((ts + 1 : Int) == ts + 1) = true := by simp
                generalize v.ts = vt at *
                generalize v.rd = vr at *
                try generalize v.done = vq at *
                go_quiet (fail)
                rename_i nq
                have HL9 := Lib.hid (HC3.out.below (still_b nq))
                have HB9 := Lib.hid (below_two HB3.out (still_b nq))
                have HP := Lib.hid (HP.out.step (still_b nq))
                clear p1 y0 y1 y3 HC3 HB3
                have p1 := HP.out.cell 1 _ rfl
                have p2 := HP.out.cell 2 _ rfl
                generalize w3.drewN nq = w9 at *
                go_wp2_with (first
                  | (go_at_call 13; with_reducible refine (WD.out _ _ (HL9.out)).mono ?_; rintro e w10 ⟨x8, rfl, h8, b10⟩; have HP := Lib.hid (HP.out.step b10); have HL10 := Lib.hid (And.intro ((HL9.out).below b10) (h8)); have HB10 := Lib.hid (below_two HB9.out b10); clear p1 p2; have p1 := HP.out.cell 1 _ rfl; have p2 := HP.out.cell 2 _ rfl; clear b10 h8)
                  | (go_at_call 11; with_reducible refine (RO.out _ _ (HL10.out.2)).mono ?_; rintro e w11 ⟨x11, q1, rfl, h11, b11⟩; have X12 := Lib.hid (Bk.new w11 [.int .i64 ts, .int .i64 q1, .string val, .bool false] 27 rfl); have b11 := b11.alloc b11.size (.cells #[.int .i64 ts, .int .i64 q1, .string val, .bool false] 27); have HP := Lib.hid (HP.out.step b11); have HL11 := Lib.hid (And.intro ((HL10.out.1).below b11) (And.intro ((HL10.out.2).below b11) (h11.below ((Below.refl w11.heap.size w11).alloc (Nat.le_refl _) (.cells #[.int .i64 ts, .int .i64 q1, .string val, .bool false] 27))))); have HB11 := Lib.hid (below_two HB10.out b11); clear p1 p2; have p1 := HP.out.cell 1 _ rfl; have p2 := HP.out.cell 2 _ rfl; clear b11 h11)
                  | (go_at_call 11; with_reducible refine (RB.out _ _ (HL11.out.2.1)).mono ?_; rintro e w12 ⟨x13, a2, q2, s2, z2, rfl, h13, b12⟩; have X14 := Lib.hid (Bk.new w12 [.int .i64 a2, .int .i64 q2, .string s2, .bool z2] 27 rfl); have b12 := b12.alloc b12.size (.cells #[.int .i64 a2, .int .i64 q2, .string s2, .bool z2] 27); have HP := Lib.hid (HP.out.step b12); have X12 := Lib.hid (X12.out.step b12); have HL12 := Lib.hid (And.intro ((HL11.out.1).below b12) (And.intro ((HL11.out.2.1).below b12) (And.intro ((HL11.out.2.2).below b12) (h13.below ((Below.refl w12.heap.size w12).alloc (Nat.le_refl _) (.cells #[.int .i64 a2, .int .i64 q2, .string s2, .bool z2] 27)))))); have HB12 := Lib.hid (below_two HB11.out b12); clear p1 p2; have p1 := HP.out.cell 1 _ rfl; have p2 := HP.out.cell 2 _ rfl; clear b12 h13)
                  | (go_at_call 11; with_reducible refine (RA.out _ _ (HL12.out.2.1)).mono ?_; rintro e w13 ⟨x15, rfl, h15, b13⟩; have X16 := Lib.hid (Bk.new w13 [.int .i64 r.ts, .int .i64 r.rd, .string r.val, .bool r.done] 27 rfl); have b13 := b13.alloc b13.size (.cells #[.int .i64 r.ts, .int .i64 r.rd, .string r.val, .bool r.done] 27); have HP := Lib.hid (HP.out.step b13); have X12 := Lib.hid (X12.out.step b13); have X14 := Lib.hid (X14.out.step b13); have HL13 := Lib.hid (And.intro ((HL12.out.1).below b13) (And.intro ((HL12.out.2.1).below b13) (And.intro ((HL12.out.2.2.1).below b13) (And.intro ((HL12.out.2.2.2).below b13) (h15.below ((Below.refl w13.heap.size w13).alloc (Nat.le_refl _) (.cells #[.int .i64 r.ts, .int .i64 r.rd, .string r.val, .bool r.done] 27))))))); have HB13 := Lib.hid (below_two HB12.out b13); clear p1 p2; have p1 := HP.out.cell 1 _ rfl; have p2 := HP.out.cell 2 _ rfl; clear b13 h15)
                  | (go_at_call 11; with_reducible refine (RW.out _ _ (HL13.out.1)).mono ?_; rintro e w14 ⟨x17, rfl, h17, b14⟩; have X18 := Lib.hid (Bk.new w14 [.int .i64 r.ts, .int .i64 r.rd, .string r.val, .bool r.done] 27 rfl); have b14 := b14.alloc b14.size (.cells #[.int .i64 r.ts, .int .i64 r.rd, .string r.val, .bool r.done] 27); have HP := Lib.hid (HP.out.step b14); have X12 := Lib.hid (X12.out.step b14); have X14 := Lib.hid (X14.out.step b14); have X16 := Lib.hid (X16.out.step b14); have HL14 := Lib.hid (And.intro ((HL13.out.1).below b14) (And.intro ((HL13.out.2.1).below b14) (And.intro ((HL13.out.2.2.1).below b14) (And.intro ((HL13.out.2.2.2.1).below b14) (And.intro ((HL13.out.2.2.2.2).below b14) (h17.below ((Below.refl w14.heap.size w14).alloc (Nat.le_refl _) (.cells #[.int .i64 r.ts, .int .i64 r.rd, .string r.val, .bool r.done] 27)))))))); have HB14 := Lib.hid (below_two HB13.out b14); clear p1 p2; have p1 := HP.out.cell 1 _ rfl; have p2 := HP.out.cell 2 _ rfl; clear b14 h17))
                have HCx := Lib.hid ((HL14.out.1))
                change Code.wp Try.prog _ _ _ (w14.alloc (.cells #[.int .i64 r.ts, .int .i64 r.rd, .string r.val, .bool r.done] 27))
                generalize (w14.alloc (.cells #[.int .i64 r.ts, .int .i64 r.rd, .string r.val, .bool r.done] 27)) = wz at *
                obtain ⟨az, _, ez, _, _, m0, _, _, _⟩ := HCx.out.nth (k + 1) hnx
                cases ez
                rw [hny] at m0
                go_quiet (fail)
                have HX12 := Lib.hid (X12.out.step (still_b nq))
                have HX14 := Lib.hid (X14.out.step (still_b nq))
                have HX16 := Lib.hid (X16.out.step (still_b nq))
                have HX18 := Lib.hid (X18.out.step (still_b nq))
                have HPz := Lib.hid (HP.out.step (still_b nq))
                have HBz := Lib.hid (below_two HB14.out (still_b nq))
                clear p1 p2
                generalize wz.drewN nq = wy at *
                have p1 := HPz.out.cell 1 _ rfl
                have p2 := HPz.out.cell 2 _ rfl
                have i0 := HX12.out.cell 0 _ rfl
                have i2 := HX12.out.cell 2 _ rfl
                have i3 := HX12.out.cell 3 _ rfl
                have j2 := HX14.out.cell 2 _ rfl
                have k0 := HX16.out.cell 0 _ rfl
                have k2 := HX16.out.cell 2 _ rfl
                have l0 := HX18.out.cell 0 _ rfl
                have l2 := HX18.out.cell 2 _ rfl
                go_wp2_with fail
                go_ret
                exact ⟨rfl, HBz.out⟩
              · have RB : Hid (∀ W v', Lc W v' (Cn.writeC c ts val) → Calls Try.prog 11 #[v', .int .i64 (ts + 1)] W fun e w' => ∃ v'' a q z, e = .returned (.tuple #[v'', .agg #[.int .i64 a, .int .i64 q, .string val, .bool z]]) ∧ Lc w' v'' (Cn.readC (Cn.writeC c ts val) (ts + 1)) ∧ Below W.heap.size W w') := Lib.hid (fun W v' h => (K.readL h (by have := HWL.out; omega) (ts + 1) (by omega) (by omega)).mono (fun _ _ hh => by
                  obtain ⟨v'', rfl, hs, hb⟩ := hh
                  have e := Cn.late_behind (val := val) HJ.out.may HSp.out HLT.out (Cn.next_no HJ.out.may HSp.out (fun h9 => by simp only [HKa.out]; exact hny))
                  exact ⟨v'', _, _, _, ret_v (by unfold verA; rw [e]), hs, hb⟩))
                obtain ⟨mu, hmu⟩ : ∃ mu, mu = c[k + 1].ts := ⟨_, rfl⟩
                have g2 : (mu == ts + 1) = false := by rw [hmu]; simpa using hny
                have HMu := Lib.hid hmu
                clear hmu hny
                generalize v.ts = vt at *
                generalize v.rd = vr at *
                try generalize v.done = vq at *
                go_quiet (fail)
                rename_i nq
                have HL9 := Lib.hid (HC3.out.below (still_b nq))
                have HB9 := Lib.hid (below_two HB3.out (still_b nq))
                have HP := Lib.hid (HP.out.step (still_b nq))
                clear p1 y0 y1 y3 HC3 HB3
                have p1 := HP.out.cell 1 _ rfl
                have p2 := HP.out.cell 2 _ rfl
                generalize w3.drewN nq = w9 at *
                go_wp2_with (first
                  | (go_at_call 13; with_reducible refine (WD.out _ _ (HL9.out)).mono ?_; rintro e w10 ⟨x8, rfl, h8, b10⟩; have HP := Lib.hid (HP.out.step b10); have HL10 := Lib.hid (And.intro ((HL9.out).below b10) (h8)); have HB10 := Lib.hid (below_two HB9.out b10); clear p1 p2; have p1 := HP.out.cell 1 _ rfl; have p2 := HP.out.cell 2 _ rfl; clear b10 h8)
                  | (go_at_call 11; with_reducible refine (RO.out _ _ (HL10.out.2)).mono ?_; rintro e w11 ⟨x11, q1, rfl, h11, b11⟩; have X12 := Lib.hid (Bk.new w11 [.int .i64 ts, .int .i64 q1, .string val, .bool false] 27 rfl); have b11 := b11.alloc b11.size (.cells #[.int .i64 ts, .int .i64 q1, .string val, .bool false] 27); have HP := Lib.hid (HP.out.step b11); have HL11 := Lib.hid (And.intro ((HL10.out.1).below b11) (And.intro ((HL10.out.2).below b11) (h11.below ((Below.refl w11.heap.size w11).alloc (Nat.le_refl _) (.cells #[.int .i64 ts, .int .i64 q1, .string val, .bool false] 27))))); have HB11 := Lib.hid (below_two HB10.out b11); clear p1 p2; have p1 := HP.out.cell 1 _ rfl; have p2 := HP.out.cell 2 _ rfl; clear b11 h11)
                  | (go_at_call 11; with_reducible refine (RB.out _ _ (HL11.out.2.1)).mono ?_; rintro e w12 ⟨x13, a2, q2, z2, rfl, h13, b12⟩; have X14 := Lib.hid (Bk.new w12 [.int .i64 a2, .int .i64 q2, .string val, .bool z2] 27 rfl); have b12 := b12.alloc b12.size (.cells #[.int .i64 a2, .int .i64 q2, .string val, .bool z2] 27); have HP := Lib.hid (HP.out.step b12); have X12 := Lib.hid (X12.out.step b12); have HL12 := Lib.hid (And.intro ((HL11.out.1).below b12) (And.intro ((HL11.out.2.1).below b12) (And.intro ((HL11.out.2.2).below b12) (h13.below ((Below.refl w12.heap.size w12).alloc (Nat.le_refl _) (.cells #[.int .i64 a2, .int .i64 q2, .string val, .bool z2] 27)))))); have HB12 := Lib.hid (below_two HB11.out b12); clear p1 p2; have p1 := HP.out.cell 1 _ rfl; have p2 := HP.out.cell 2 _ rfl; clear b12 h13)
                  | (go_at_call 11; with_reducible refine (RA.out _ _ (HL12.out.2.1)).mono ?_; rintro e w13 ⟨x15, rfl, h15, b13⟩; have X16 := Lib.hid (Bk.new w13 [.int .i64 r.ts, .int .i64 r.rd, .string r.val, .bool r.done] 27 rfl); have b13 := b13.alloc b13.size (.cells #[.int .i64 r.ts, .int .i64 r.rd, .string r.val, .bool r.done] 27); have HP := Lib.hid (HP.out.step b13); have X12 := Lib.hid (X12.out.step b13); have X14 := Lib.hid (X14.out.step b13); have HL13 := Lib.hid (And.intro ((HL12.out.1).below b13) (And.intro ((HL12.out.2.1).below b13) (And.intro ((HL12.out.2.2.1).below b13) (And.intro ((HL12.out.2.2.2).below b13) (h15.below ((Below.refl w13.heap.size w13).alloc (Nat.le_refl _) (.cells #[.int .i64 r.ts, .int .i64 r.rd, .string r.val, .bool r.done] 27))))))); have HB13 := Lib.hid (below_two HB12.out b13); clear p1 p2; have p1 := HP.out.cell 1 _ rfl; have p2 := HP.out.cell 2 _ rfl; clear b13 h15)
                  | (go_at_call 11; with_reducible refine (RW.out _ _ (HL13.out.1)).mono ?_; rintro e w14 ⟨x17, rfl, h17, b14⟩; have X18 := Lib.hid (Bk.new w14 [.int .i64 r.ts, .int .i64 r.rd, .string r.val, .bool r.done] 27 rfl); have b14 := b14.alloc b14.size (.cells #[.int .i64 r.ts, .int .i64 r.rd, .string r.val, .bool r.done] 27); have HP := Lib.hid (HP.out.step b14); have X12 := Lib.hid (X12.out.step b14); have X14 := Lib.hid (X14.out.step b14); have X16 := Lib.hid (X16.out.step b14); have HL14 := Lib.hid (And.intro ((HL13.out.1).below b14) (And.intro ((HL13.out.2.1).below b14) (And.intro ((HL13.out.2.2.1).below b14) (And.intro ((HL13.out.2.2.2.1).below b14) (And.intro ((HL13.out.2.2.2.2).below b14) (h17.below ((Below.refl w14.heap.size w14).alloc (Nat.le_refl _) (.cells #[.int .i64 r.ts, .int .i64 r.rd, .string r.val, .bool r.done] 27)))))))); have HB14 := Lib.hid (below_two HB13.out b14); clear p1 p2; have p1 := HP.out.cell 1 _ rfl; have p2 := HP.out.cell 2 _ rfl; clear b14 h17))
                have HCx := Lib.hid ((HL14.out.1))
                change Code.wp Try.prog _ _ _ (w14.alloc (.cells #[.int .i64 r.ts, .int .i64 r.rd, .string r.val, .bool r.done] 27))
                generalize (w14.alloc (.cells #[.int .i64 r.ts, .int .i64 r.rd, .string r.val, .bool r.done] 27)) = wz at *
                obtain ⟨az, _, ez, _, _, m0, _, _, _⟩ := HCx.out.nth (k + 1) hnx
                cases ez
                rw [← HMu.out] at m0
                go_quiet (fail)
                have HX12 := Lib.hid (X12.out.step (still_b nq))
                have HX14 := Lib.hid (X14.out.step (still_b nq))
                have HX16 := Lib.hid (X16.out.step (still_b nq))
                have HX18 := Lib.hid (X18.out.step (still_b nq))
                have HPz := Lib.hid (HP.out.step (still_b nq))
                have HBz := Lib.hid (below_two HB14.out (still_b nq))
                clear p1 p2
                generalize wz.drewN nq = wy at *
                have p1 := HPz.out.cell 1 _ rfl
                have p2 := HPz.out.cell 2 _ rfl
                have i0 := HX12.out.cell 0 _ rfl
                have i2 := HX12.out.cell 2 _ rfl
                have i3 := HX12.out.cell 3 _ rfl
                have j2 := HX14.out.cell 2 _ rfl
                have k0 := HX16.out.cell 0 _ rfl
                have k2 := HX16.out.cell 2 _ rfl
                have l0 := HX18.out.cell 0 _ rfl
                have l2 := HX18.out.cell 2 _ rfl
                go_wp2_with fail
                go_ret
                exact ⟨rfl, HBz.out⟩
            · have g1 : decide ((k : Int) + 1 < (c.length : Int)) = false := decide_eq_false (by omega)
              have g1' : ¬ (k : Int) + 1 < (c.length : Int) := by omega
              have RB : Hid (∀ W v', Lc W v' (Cn.writeC c ts val) → Calls Try.prog 11 #[v', .int .i64 (ts + 1)] W fun e w' => ∃ v'' a q z, e = .returned (.tuple #[v'', .agg #[.int .i64 a, .int .i64 q, .string val, .bool z]]) ∧ Lc w' v'' (Cn.readC (Cn.writeC c ts val) (ts + 1)) ∧ Below W.heap.size W w') := Lib.hid (fun W v' h => (K.readL h (by have := HWL.out; omega) (ts + 1) (by omega) (by omega)).mono (fun _ _ hh => by
                obtain ⟨v'', rfl, hs, hb⟩ := hh
                have e := Cn.late_behind (val := val) HJ.out.may HSp.out HLT.out (Cn.next_no HJ.out.may HSp.out (fun h9 => absurd h9 (by rw [HKa.out]; exact hnx)))
                exact ⟨v'', _, _, _, ret_v (by unfold verA; rw [e]), hs, hb⟩))
              generalize v.ts = vt at *
              generalize v.rd = vr at *
              try generalize v.done = vq at *
              go_quiet (fail)
              rename_i nq
              have HL9 := Lib.hid (HC3.out.below (still_b nq))
              have HB9 := Lib.hid (below_two HB3.out (still_b nq))
              have HP := Lib.hid (HP.out.step (still_b nq))
              clear p1 y0 y1 y3 HC3 HB3
              have p1 := HP.out.cell 1 _ rfl
              have p2 := HP.out.cell 2 _ rfl
              generalize w3.drewN nq = w9 at *
              go_wp2_with (first
                | (go_at_call 13; with_reducible refine (WD.out _ _ (HL9.out)).mono ?_; rintro e w10 ⟨x8, rfl, h8, b10⟩; have HP := Lib.hid (HP.out.step b10); have HL10 := Lib.hid (And.intro ((HL9.out).below b10) (h8)); have HB10 := Lib.hid (below_two HB9.out b10); clear p1 p2; have p1 := HP.out.cell 1 _ rfl; have p2 := HP.out.cell 2 _ rfl; clear b10 h8)
                | (go_at_call 11; with_reducible refine (RO.out _ _ (HL10.out.2)).mono ?_; rintro e w11 ⟨x11, q1, rfl, h11, b11⟩; have X12 := Lib.hid (Bk.new w11 [.int .i64 ts, .int .i64 q1, .string val, .bool false] 27 rfl); have b11 := b11.alloc b11.size (.cells #[.int .i64 ts, .int .i64 q1, .string val, .bool false] 27); have HP := Lib.hid (HP.out.step b11); have HL11 := Lib.hid (And.intro ((HL10.out.1).below b11) (And.intro ((HL10.out.2).below b11) (h11.below ((Below.refl w11.heap.size w11).alloc (Nat.le_refl _) (.cells #[.int .i64 ts, .int .i64 q1, .string val, .bool false] 27))))); have HB11 := Lib.hid (below_two HB10.out b11); clear p1 p2; have p1 := HP.out.cell 1 _ rfl; have p2 := HP.out.cell 2 _ rfl; clear b11 h11)
                | (go_at_call 11; with_reducible refine (RB.out _ _ (HL11.out.2.1)).mono ?_; rintro e w12 ⟨x13, a2, q2, z2, rfl, h13, b12⟩; have X14 := Lib.hid (Bk.new w12 [.int .i64 a2, .int .i64 q2, .string val, .bool z2] 27 rfl); have b12 := b12.alloc b12.size (.cells #[.int .i64 a2, .int .i64 q2, .string val, .bool z2] 27); have HP := Lib.hid (HP.out.step b12); have X12 := Lib.hid (X12.out.step b12); have HL12 := Lib.hid (And.intro ((HL11.out.1).below b12) (And.intro ((HL11.out.2.1).below b12) (And.intro ((HL11.out.2.2).below b12) (h13.below ((Below.refl w12.heap.size w12).alloc (Nat.le_refl _) (.cells #[.int .i64 a2, .int .i64 q2, .string val, .bool z2] 27)))))); have HB12 := Lib.hid (below_two HB11.out b12); clear p1 p2; have p1 := HP.out.cell 1 _ rfl; have p2 := HP.out.cell 2 _ rfl; clear b12 h13)
                | (go_at_call 11; with_reducible refine (RA.out _ _ (HL12.out.2.1)).mono ?_; rintro e w13 ⟨x15, rfl, h15, b13⟩; have X16 := Lib.hid (Bk.new w13 [.int .i64 r.ts, .int .i64 r.rd, .string r.val, .bool r.done] 27 rfl); have b13 := b13.alloc b13.size (.cells #[.int .i64 r.ts, .int .i64 r.rd, .string r.val, .bool r.done] 27); have HP := Lib.hid (HP.out.step b13); have X12 := Lib.hid (X12.out.step b13); have X14 := Lib.hid (X14.out.step b13); have HL13 := Lib.hid (And.intro ((HL12.out.1).below b13) (And.intro ((HL12.out.2.1).below b13) (And.intro ((HL12.out.2.2.1).below b13) (And.intro ((HL12.out.2.2.2).below b13) (h15.below ((Below.refl w13.heap.size w13).alloc (Nat.le_refl _) (.cells #[.int .i64 r.ts, .int .i64 r.rd, .string r.val, .bool r.done] 27))))))); have HB13 := Lib.hid (below_two HB12.out b13); clear p1 p2; have p1 := HP.out.cell 1 _ rfl; have p2 := HP.out.cell 2 _ rfl; clear b13 h15)
                | (go_at_call 11; with_reducible refine (RW.out _ _ (HL13.out.1)).mono ?_; rintro e w14 ⟨x17, rfl, h17, b14⟩; have X18 := Lib.hid (Bk.new w14 [.int .i64 r.ts, .int .i64 r.rd, .string r.val, .bool r.done] 27 rfl); have b14 := b14.alloc b14.size (.cells #[.int .i64 r.ts, .int .i64 r.rd, .string r.val, .bool r.done] 27); have HP := Lib.hid (HP.out.step b14); have X12 := Lib.hid (X12.out.step b14); have X14 := Lib.hid (X14.out.step b14); have X16 := Lib.hid (X16.out.step b14); have HL14 := Lib.hid (And.intro ((HL13.out.1).below b14) (And.intro ((HL13.out.2.1).below b14) (And.intro ((HL13.out.2.2.1).below b14) (And.intro ((HL13.out.2.2.2.1).below b14) (And.intro ((HL13.out.2.2.2.2).below b14) (h17.below ((Below.refl w14.heap.size w14).alloc (Nat.le_refl _) (.cells #[.int .i64 r.ts, .int .i64 r.rd, .string r.val, .bool r.done] 27)))))))); have HB14 := Lib.hid (below_two HB13.out b14); clear p1 p2; have p1 := HP.out.cell 1 _ rfl; have p2 := HP.out.cell 2 _ rfl; clear b14 h17))
              have HCx := Lib.hid ((HL14.out.1))
              change Code.wp Try.prog _ _ _ (w14.alloc (.cells #[.int .i64 r.ts, .int .i64 r.rd, .string r.val, .bool r.done] 27))
              generalize (w14.alloc (.cells #[.int .i64 r.ts, .int .i64 r.rd, .string r.val, .bool r.done] 27)) = wz at *
              go_quiet (fail)
              have HX12 := Lib.hid (X12.out.step (still_b nq))
              have HX14 := Lib.hid (X14.out.step (still_b nq))
              have HX16 := Lib.hid (X16.out.step (still_b nq))
              have HX18 := Lib.hid (X18.out.step (still_b nq))
              have HPz := Lib.hid (HP.out.step (still_b nq))
              have HBz := Lib.hid (below_two HB14.out (still_b nq))
              clear p1 p2
              generalize wz.drewN nq = wy at *
              have p1 := HPz.out.cell 1 _ rfl
              have p2 := HPz.out.cell 2 _ rfl
              have i0 := HX12.out.cell 0 _ rfl
              have i2 := HX12.out.cell 2 _ rfl
              have i3 := HX12.out.cell 3 _ rfl
              have j2 := HX14.out.cell 2 _ rfl
              have k0 := HX16.out.cell 0 _ rfl
              have k2 := HX16.out.cell 2 _ rfl
              have l0 := HX18.out.cell 0 _ rfl
              have l2 := HX18.out.cell 2 _ rfl
              go_wp2_with fail
              go_ret
              exact ⟨rfl, HBz.out⟩
        · have f2 : (v.ts == ts) = false := by simpa using ho
          have hlt : Cn.lateV v ts = false := by unfold Cn.lateV; simp [hr2, ho]
          have HE := Lib.hid (HSp.out.new (val := val) HJ.out.may hlt ho).2
          have WD : Hid (∀ W v', Lc W v' c → Calls Try.prog 13 #[v', .int .i64 ts, .string val] W fun e w' => ∃ v'', e = .returned (.tuple #[v'', .int .i64 0]) ∧ Lc w' v'' (Cn.writeC c ts val) ∧ Below W.heap.size W w') := Lib.hid (fun W v' h => by
            have := K.writeL h (by omega) ts val t0 t1
            rw [HE.out] at this
            exact this)
          have RO : Hid (∀ W v', Lc W v' (Cn.writeC c ts val) → Calls Try.prog 11 #[v', .int .i64 ts] W fun e w' => ∃ v'' q, e = .returned (.tuple #[v'', .agg #[.int .i64 ts, .int .i64 q, .string val, .bool false]]) ∧ Lc w' v'' (Cn.readC (Cn.writeC c ts val) ts) ∧ Below W.heap.size W w') := Lib.hid (fun W v' h => (K.readL h (by have := HWL.out; omega) ts t0 t1).mono (fun _ _ hh => by
            obtain ⟨v'', rfl, hs, hb⟩ := hh
            obtain ⟨a1, a2, a3⟩ := Cn.late_own (val := val) HJ.out.may HSp.out hlt
            exact ⟨v'', _, ret_v (by unfold verA; rw [a1, a2, a3]), hs, hb⟩))
          have RA : Hid (∀ W v', Lc W v' (Cn.writeC c ts val) → Calls Try.prog 11 #[v', .int .i64 (ts - 1)] W fun e w' => ∃ v'', e = .returned (.tuple #[v'', .agg #[.int .i64 (Cn.readV c (ts - 1)).ts, .int .i64 (Cn.readV c (ts - 1)).rd, .string (Cn.readV c (ts - 1)).val, .bool (Cn.readV c (ts - 1)).done]]) ∧ Lc w' v'' (Cn.readC (Cn.writeC c ts val) (ts - 1)) ∧ Below W.heap.size W w') := Lib.hid (fun W v' h => by
            obtain ⟨s, hss⟩ := HJ.out.seen (ts := ts - 1) (by omega)
            have := K.readL h (by have := HWL.out; omega) (ts - 1) (by omega) (by omega)
            rw [Cn.late_ahead (val := val) HJ.out.may HSp.out hlt hss] at this
            exact this)
          have RW : Hid (∀ W v', Lc W v' c → Calls Try.prog 11 #[v', .int .i64 (ts - 1)] W fun e w' => ∃ v'', e = .returned (.tuple #[v'', .agg #[.int .i64 (Cn.readV c (ts - 1)).ts, .int .i64 (Cn.readV c (ts - 1)).rd, .string (Cn.readV c (ts - 1)).val, .bool (Cn.readV c (ts - 1)).done]]) ∧ Lc w' v'' (Cn.readC c (ts - 1)) ∧ Below W.heap.size W w') := Lib.hid (fun W v' h => K.readL h (by omega) (ts - 1) (by omega) (by omega))
          generalize Cn.readV c (ts - 1) = r at *
          have HLT := Lib.hid hlt
          clear hlt
          try clear ho
          have hw1 : IntKind.i64.wrap (ts + 1) = ts + 1 := IntWalk.i64_in _ (by omega)
          have hw2 : IntKind.i64.wrap (ts - 1) = ts - 1 := IntWalk.i64_in _ (by omega)
          have hw3 : IntKind.i64.wrap ((k : Int) + 1) = (k : Int) + 1 := IntWalk.i64_in _ (by omega)
          have hk2 : (0 : Int) ≤ (k : Int) + 1 := by omega
          have HVt : Hid (∀ x, x = v.ts → True) := Lib.hid (fun _ _ => trivial)
          clear HVt
          by_cases hnx : k + 1 < c.length
          · have g1 : decide ((k : Int) + 1 < (c.length : Int)) = true := decide_eq_true (by omega)
            have g1' : (k : Int) + 1 < (c.length : Int) := by omega
            by_cases hny : c[k + 1].ts = ts + 1
            · have RB : Hid (∀ W v', Lc W v' (Cn.writeC c ts val) → Calls Try.prog 11 #[v', .int .i64 (ts + 1)] W fun e w' => ∃ v'' a q s z, e = .returned (.tuple #[v'', .agg #[.int .i64 a, .int .i64 q, .string s, .bool z]]) ∧ Lc w' v'' (Cn.readC (Cn.writeC c ts val) (ts + 1)) ∧ Below W.heap.size W w') := Lib.hid (fun W v' h => (K.readL h (by have := HWL.out; omega) (ts + 1) (by omega) (by omega)).mono (fun _ _ hh => by
                obtain ⟨v'', rfl, hs, hb⟩ := hh
                exact ⟨v'', _, _, _, _, rfl, hs, hb⟩))
              have g2 : ((ts + 1 : Int) == ts + 1) = true := by simp
              generalize v.ts = vt at *
              generalize v.rd = vr at *
              try generalize v.done = vq at *
              go_quiet (fail)
              rename_i nq
              have HL9 := Lib.hid (HC3.out.below (still_b nq))
              have HB9 := Lib.hid (below_two HB3.out (still_b nq))
              have HP := Lib.hid (HP.out.step (still_b nq))
              clear p1 y0 y1 y3 HC3 HB3
              have p1 := HP.out.cell 1 _ rfl
              have p2 := HP.out.cell 2 _ rfl
              generalize w3.drewN nq = w9 at *
              go_wp2_with (first
                | (go_at_call 13; with_reducible refine (WD.out _ _ (HL9.out)).mono ?_; rintro e w10 ⟨x8, rfl, h8, b10⟩; have HP := Lib.hid (HP.out.step b10); have HL10 := Lib.hid (And.intro ((HL9.out).below b10) (h8)); have HB10 := Lib.hid (below_two HB9.out b10); clear p1 p2; have p1 := HP.out.cell 1 _ rfl; have p2 := HP.out.cell 2 _ rfl; clear b10 h8)
                | (go_at_call 11; with_reducible refine (RO.out _ _ (HL10.out.2)).mono ?_; rintro e w11 ⟨x11, q1, rfl, h11, b11⟩; have X12 := Lib.hid (Bk.new w11 [.int .i64 ts, .int .i64 q1, .string val, .bool false] 27 rfl); have b11 := b11.alloc b11.size (.cells #[.int .i64 ts, .int .i64 q1, .string val, .bool false] 27); have HP := Lib.hid (HP.out.step b11); have HL11 := Lib.hid (And.intro ((HL10.out.1).below b11) (And.intro ((HL10.out.2).below b11) (h11.below ((Below.refl w11.heap.size w11).alloc (Nat.le_refl _) (.cells #[.int .i64 ts, .int .i64 q1, .string val, .bool false] 27))))); have HB11 := Lib.hid (below_two HB10.out b11); clear p1 p2; have p1 := HP.out.cell 1 _ rfl; have p2 := HP.out.cell 2 _ rfl; clear b11 h11)
                | (go_at_call 11; with_reducible refine (RB.out _ _ (HL11.out.2.1)).mono ?_; rintro e w12 ⟨x13, a2, q2, s2, z2, rfl, h13, b12⟩; have X14 := Lib.hid (Bk.new w12 [.int .i64 a2, .int .i64 q2, .string s2, .bool z2] 27 rfl); have b12 := b12.alloc b12.size (.cells #[.int .i64 a2, .int .i64 q2, .string s2, .bool z2] 27); have HP := Lib.hid (HP.out.step b12); have X12 := Lib.hid (X12.out.step b12); have HL12 := Lib.hid (And.intro ((HL11.out.1).below b12) (And.intro ((HL11.out.2.1).below b12) (And.intro ((HL11.out.2.2).below b12) (h13.below ((Below.refl w12.heap.size w12).alloc (Nat.le_refl _) (.cells #[.int .i64 a2, .int .i64 q2, .string s2, .bool z2] 27)))))); have HB12 := Lib.hid (below_two HB11.out b12); clear p1 p2; have p1 := HP.out.cell 1 _ rfl; have p2 := HP.out.cell 2 _ rfl; clear b12 h13)
                | (go_at_call 11; with_reducible refine (RA.out _ _ (HL12.out.2.1)).mono ?_; rintro e w13 ⟨x15, rfl, h15, b13⟩; have X16 := Lib.hid (Bk.new w13 [.int .i64 r.ts, .int .i64 r.rd, .string r.val, .bool r.done] 27 rfl); have b13 := b13.alloc b13.size (.cells #[.int .i64 r.ts, .int .i64 r.rd, .string r.val, .bool r.done] 27); have HP := Lib.hid (HP.out.step b13); have X12 := Lib.hid (X12.out.step b13); have X14 := Lib.hid (X14.out.step b13); have HL13 := Lib.hid (And.intro ((HL12.out.1).below b13) (And.intro ((HL12.out.2.1).below b13) (And.intro ((HL12.out.2.2.1).below b13) (And.intro ((HL12.out.2.2.2).below b13) (h15.below ((Below.refl w13.heap.size w13).alloc (Nat.le_refl _) (.cells #[.int .i64 r.ts, .int .i64 r.rd, .string r.val, .bool r.done] 27))))))); have HB13 := Lib.hid (below_two HB12.out b13); clear p1 p2; have p1 := HP.out.cell 1 _ rfl; have p2 := HP.out.cell 2 _ rfl; clear b13 h15)
                | (go_at_call 11; with_reducible refine (RW.out _ _ (HL13.out.1)).mono ?_; rintro e w14 ⟨x17, rfl, h17, b14⟩; have X18 := Lib.hid (Bk.new w14 [.int .i64 r.ts, .int .i64 r.rd, .string r.val, .bool r.done] 27 rfl); have b14 := b14.alloc b14.size (.cells #[.int .i64 r.ts, .int .i64 r.rd, .string r.val, .bool r.done] 27); have HP := Lib.hid (HP.out.step b14); have X12 := Lib.hid (X12.out.step b14); have X14 := Lib.hid (X14.out.step b14); have X16 := Lib.hid (X16.out.step b14); have HL14 := Lib.hid (And.intro ((HL13.out.1).below b14) (And.intro ((HL13.out.2.1).below b14) (And.intro ((HL13.out.2.2.1).below b14) (And.intro ((HL13.out.2.2.2.1).below b14) (And.intro ((HL13.out.2.2.2.2).below b14) (h17.below ((Below.refl w14.heap.size w14).alloc (Nat.le_refl _) (.cells #[.int .i64 r.ts, .int .i64 r.rd, .string r.val, .bool r.done] 27)))))))); have HB14 := Lib.hid (below_two HB13.out b14); clear p1 p2; have p1 := HP.out.cell 1 _ rfl; have p2 := HP.out.cell 2 _ rfl; clear b14 h17))
              have HCx := Lib.hid ((HL14.out.1))
              change Code.wp Try.prog _ _ _ (w14.alloc (.cells #[.int .i64 r.ts, .int .i64 r.rd, .string r.val, .bool r.done] 27))
              generalize (w14.alloc (.cells #[.int .i64 r.ts, .int .i64 r.rd, .string r.val, .bool r.done] 27)) = wz at *
              obtain ⟨az, _, ez, _, _, m0, _, _, _⟩ := HCx.out.nth (k + 1) hnx
              cases ez
              rw [hny] at m0
              go_quiet (fail)
              have HX12 := Lib.hid (X12.out.step (still_b nq))
              have HX14 := Lib.hid (X14.out.step (still_b nq))
              have HX16 := Lib.hid (X16.out.step (still_b nq))
              have HX18 := Lib.hid (X18.out.step (still_b nq))
              have HPz := Lib.hid (HP.out.step (still_b nq))
              have HBz := Lib.hid (below_two HB14.out (still_b nq))
              clear p1 p2
              generalize wz.drewN nq = wy at *
              have p1 := HPz.out.cell 1 _ rfl
              have p2 := HPz.out.cell 2 _ rfl
              have i0 := HX12.out.cell 0 _ rfl
              have i2 := HX12.out.cell 2 _ rfl
              have i3 := HX12.out.cell 3 _ rfl
              have j2 := HX14.out.cell 2 _ rfl
              have k0 := HX16.out.cell 0 _ rfl
              have k2 := HX16.out.cell 2 _ rfl
              have l0 := HX18.out.cell 0 _ rfl
              have l2 := HX18.out.cell 2 _ rfl
              go_wp2_with fail
              go_ret
              exact ⟨rfl, HBz.out⟩
            · have RB : Hid (∀ W v', Lc W v' (Cn.writeC c ts val) → Calls Try.prog 11 #[v', .int .i64 (ts + 1)] W fun e w' => ∃ v'' a q z, e = .returned (.tuple #[v'', .agg #[.int .i64 a, .int .i64 q, .string val, .bool z]]) ∧ Lc w' v'' (Cn.readC (Cn.writeC c ts val) (ts + 1)) ∧ Below W.heap.size W w') := Lib.hid (fun W v' h => (K.readL h (by have := HWL.out; omega) (ts + 1) (by omega) (by omega)).mono (fun _ _ hh => by
                obtain ⟨v'', rfl, hs, hb⟩ := hh
                have e := Cn.late_behind (val := val) HJ.out.may HSp.out HLT.out (Cn.next_no HJ.out.may HSp.out (fun h9 => by simp only [HKa.out]; exact hny))
                exact ⟨v'', _, _, _, ret_v (by unfold verA; rw [e]), hs, hb⟩))
              obtain ⟨mu, hmu⟩ : ∃ mu, mu = c[k + 1].ts := ⟨_, rfl⟩
              have g2 : (mu == ts + 1) = false := by rw [hmu]; simpa using hny
              have HMu := Lib.hid hmu
              clear hmu hny
              generalize v.ts = vt at *
              generalize v.rd = vr at *
              try generalize v.done = vq at *
              go_quiet (fail)
              rename_i nq
              have HL9 := Lib.hid (HC3.out.below (still_b nq))
              have HB9 := Lib.hid (below_two HB3.out (still_b nq))
              have HP := Lib.hid (HP.out.step (still_b nq))
              clear p1 y0 y1 y3 HC3 HB3
              have p1 := HP.out.cell 1 _ rfl
              have p2 := HP.out.cell 2 _ rfl
              generalize w3.drewN nq = w9 at *
              go_wp2_with (first
                | (go_at_call 13; with_reducible refine (WD.out _ _ (HL9.out)).mono ?_; rintro e w10 ⟨x8, rfl, h8, b10⟩; have HP := Lib.hid (HP.out.step b10); have HL10 := Lib.hid (And.intro ((HL9.out).below b10) (h8)); have HB10 := Lib.hid (below_two HB9.out b10); clear p1 p2; have p1 := HP.out.cell 1 _ rfl; have p2 := HP.out.cell 2 _ rfl; clear b10 h8)
                | (go_at_call 11; with_reducible refine (RO.out _ _ (HL10.out.2)).mono ?_; rintro e w11 ⟨x11, q1, rfl, h11, b11⟩; have X12 := Lib.hid (Bk.new w11 [.int .i64 ts, .int .i64 q1, .string val, .bool false] 27 rfl); have b11 := b11.alloc b11.size (.cells #[.int .i64 ts, .int .i64 q1, .string val, .bool false] 27); have HP := Lib.hid (HP.out.step b11); have HL11 := Lib.hid (And.intro ((HL10.out.1).below b11) (And.intro ((HL10.out.2).below b11) (h11.below ((Below.refl w11.heap.size w11).alloc (Nat.le_refl _) (.cells #[.int .i64 ts, .int .i64 q1, .string val, .bool false] 27))))); have HB11 := Lib.hid (below_two HB10.out b11); clear p1 p2; have p1 := HP.out.cell 1 _ rfl; have p2 := HP.out.cell 2 _ rfl; clear b11 h11)
                | (go_at_call 11; with_reducible refine (RB.out _ _ (HL11.out.2.1)).mono ?_; rintro e w12 ⟨x13, a2, q2, z2, rfl, h13, b12⟩; have X14 := Lib.hid (Bk.new w12 [.int .i64 a2, .int .i64 q2, .string val, .bool z2] 27 rfl); have b12 := b12.alloc b12.size (.cells #[.int .i64 a2, .int .i64 q2, .string val, .bool z2] 27); have HP := Lib.hid (HP.out.step b12); have X12 := Lib.hid (X12.out.step b12); have HL12 := Lib.hid (And.intro ((HL11.out.1).below b12) (And.intro ((HL11.out.2.1).below b12) (And.intro ((HL11.out.2.2).below b12) (h13.below ((Below.refl w12.heap.size w12).alloc (Nat.le_refl _) (.cells #[.int .i64 a2, .int .i64 q2, .string val, .bool z2] 27)))))); have HB12 := Lib.hid (below_two HB11.out b12); clear p1 p2; have p1 := HP.out.cell 1 _ rfl; have p2 := HP.out.cell 2 _ rfl; clear b12 h13)
                | (go_at_call 11; with_reducible refine (RA.out _ _ (HL12.out.2.1)).mono ?_; rintro e w13 ⟨x15, rfl, h15, b13⟩; have X16 := Lib.hid (Bk.new w13 [.int .i64 r.ts, .int .i64 r.rd, .string r.val, .bool r.done] 27 rfl); have b13 := b13.alloc b13.size (.cells #[.int .i64 r.ts, .int .i64 r.rd, .string r.val, .bool r.done] 27); have HP := Lib.hid (HP.out.step b13); have X12 := Lib.hid (X12.out.step b13); have X14 := Lib.hid (X14.out.step b13); have HL13 := Lib.hid (And.intro ((HL12.out.1).below b13) (And.intro ((HL12.out.2.1).below b13) (And.intro ((HL12.out.2.2.1).below b13) (And.intro ((HL12.out.2.2.2).below b13) (h15.below ((Below.refl w13.heap.size w13).alloc (Nat.le_refl _) (.cells #[.int .i64 r.ts, .int .i64 r.rd, .string r.val, .bool r.done] 27))))))); have HB13 := Lib.hid (below_two HB12.out b13); clear p1 p2; have p1 := HP.out.cell 1 _ rfl; have p2 := HP.out.cell 2 _ rfl; clear b13 h15)
                | (go_at_call 11; with_reducible refine (RW.out _ _ (HL13.out.1)).mono ?_; rintro e w14 ⟨x17, rfl, h17, b14⟩; have X18 := Lib.hid (Bk.new w14 [.int .i64 r.ts, .int .i64 r.rd, .string r.val, .bool r.done] 27 rfl); have b14 := b14.alloc b14.size (.cells #[.int .i64 r.ts, .int .i64 r.rd, .string r.val, .bool r.done] 27); have HP := Lib.hid (HP.out.step b14); have X12 := Lib.hid (X12.out.step b14); have X14 := Lib.hid (X14.out.step b14); have X16 := Lib.hid (X16.out.step b14); have HL14 := Lib.hid (And.intro ((HL13.out.1).below b14) (And.intro ((HL13.out.2.1).below b14) (And.intro ((HL13.out.2.2.1).below b14) (And.intro ((HL13.out.2.2.2.1).below b14) (And.intro ((HL13.out.2.2.2.2).below b14) (h17.below ((Below.refl w14.heap.size w14).alloc (Nat.le_refl _) (.cells #[.int .i64 r.ts, .int .i64 r.rd, .string r.val, .bool r.done] 27)))))))); have HB14 := Lib.hid (below_two HB13.out b14); clear p1 p2; have p1 := HP.out.cell 1 _ rfl; have p2 := HP.out.cell 2 _ rfl; clear b14 h17))
              have HCx := Lib.hid ((HL14.out.1))
              change Code.wp Try.prog _ _ _ (w14.alloc (.cells #[.int .i64 r.ts, .int .i64 r.rd, .string r.val, .bool r.done] 27))
              generalize (w14.alloc (.cells #[.int .i64 r.ts, .int .i64 r.rd, .string r.val, .bool r.done] 27)) = wz at *
              obtain ⟨az, _, ez, _, _, m0, _, _, _⟩ := HCx.out.nth (k + 1) hnx
              cases ez
              rw [← HMu.out] at m0
              go_quiet (fail)
              have HX12 := Lib.hid (X12.out.step (still_b nq))
              have HX14 := Lib.hid (X14.out.step (still_b nq))
              have HX16 := Lib.hid (X16.out.step (still_b nq))
              have HX18 := Lib.hid (X18.out.step (still_b nq))
              have HPz := Lib.hid (HP.out.step (still_b nq))
              have HBz := Lib.hid (below_two HB14.out (still_b nq))
              clear p1 p2
              generalize wz.drewN nq = wy at *
              have p1 := HPz.out.cell 1 _ rfl
              have p2 := HPz.out.cell 2 _ rfl
              have i0 := HX12.out.cell 0 _ rfl
              have i2 := HX12.out.cell 2 _ rfl
              have i3 := HX12.out.cell 3 _ rfl
              have j2 := HX14.out.cell 2 _ rfl
              have k0 := HX16.out.cell 0 _ rfl
              have k2 := HX16.out.cell 2 _ rfl
              have l0 := HX18.out.cell 0 _ rfl
              have l2 := HX18.out.cell 2 _ rfl
              go_wp2_with fail
              go_ret
              exact ⟨rfl, HBz.out⟩
          · have g1 : decide ((k : Int) + 1 < (c.length : Int)) = false := decide_eq_false (by omega)
            have g1' : ¬ (k : Int) + 1 < (c.length : Int) := by omega
            have RB : Hid (∀ W v', Lc W v' (Cn.writeC c ts val) → Calls Try.prog 11 #[v', .int .i64 (ts + 1)] W fun e w' => ∃ v'' a q z, e = .returned (.tuple #[v'', .agg #[.int .i64 a, .int .i64 q, .string val, .bool z]]) ∧ Lc w' v'' (Cn.readC (Cn.writeC c ts val) (ts + 1)) ∧ Below W.heap.size W w') := Lib.hid (fun W v' h => (K.readL h (by have := HWL.out; omega) (ts + 1) (by omega) (by omega)).mono (fun _ _ hh => by
              obtain ⟨v'', rfl, hs, hb⟩ := hh
              have e := Cn.late_behind (val := val) HJ.out.may HSp.out HLT.out (Cn.next_no HJ.out.may HSp.out (fun h9 => absurd h9 (by rw [HKa.out]; exact hnx)))
              exact ⟨v'', _, _, _, ret_v (by unfold verA; rw [e]), hs, hb⟩))
            generalize v.ts = vt at *
            generalize v.rd = vr at *
            try generalize v.done = vq at *
            go_quiet (fail)
            rename_i nq
            have HL9 := Lib.hid (HC3.out.below (still_b nq))
            have HB9 := Lib.hid (below_two HB3.out (still_b nq))
            have HP := Lib.hid (HP.out.step (still_b nq))
            clear p1 y0 y1 y3 HC3 HB3
            have p1 := HP.out.cell 1 _ rfl
            have p2 := HP.out.cell 2 _ rfl
            generalize w3.drewN nq = w9 at *
            go_wp2_with (first
              | (go_at_call 13; with_reducible refine (WD.out _ _ (HL9.out)).mono ?_; rintro e w10 ⟨x8, rfl, h8, b10⟩; have HP := Lib.hid (HP.out.step b10); have HL10 := Lib.hid (And.intro ((HL9.out).below b10) (h8)); have HB10 := Lib.hid (below_two HB9.out b10); clear p1 p2; have p1 := HP.out.cell 1 _ rfl; have p2 := HP.out.cell 2 _ rfl; clear b10 h8)
              | (go_at_call 11; with_reducible refine (RO.out _ _ (HL10.out.2)).mono ?_; rintro e w11 ⟨x11, q1, rfl, h11, b11⟩; have X12 := Lib.hid (Bk.new w11 [.int .i64 ts, .int .i64 q1, .string val, .bool false] 27 rfl); have b11 := b11.alloc b11.size (.cells #[.int .i64 ts, .int .i64 q1, .string val, .bool false] 27); have HP := Lib.hid (HP.out.step b11); have HL11 := Lib.hid (And.intro ((HL10.out.1).below b11) (And.intro ((HL10.out.2).below b11) (h11.below ((Below.refl w11.heap.size w11).alloc (Nat.le_refl _) (.cells #[.int .i64 ts, .int .i64 q1, .string val, .bool false] 27))))); have HB11 := Lib.hid (below_two HB10.out b11); clear p1 p2; have p1 := HP.out.cell 1 _ rfl; have p2 := HP.out.cell 2 _ rfl; clear b11 h11)
              | (go_at_call 11; with_reducible refine (RB.out _ _ (HL11.out.2.1)).mono ?_; rintro e w12 ⟨x13, a2, q2, z2, rfl, h13, b12⟩; have X14 := Lib.hid (Bk.new w12 [.int .i64 a2, .int .i64 q2, .string val, .bool z2] 27 rfl); have b12 := b12.alloc b12.size (.cells #[.int .i64 a2, .int .i64 q2, .string val, .bool z2] 27); have HP := Lib.hid (HP.out.step b12); have X12 := Lib.hid (X12.out.step b12); have HL12 := Lib.hid (And.intro ((HL11.out.1).below b12) (And.intro ((HL11.out.2.1).below b12) (And.intro ((HL11.out.2.2).below b12) (h13.below ((Below.refl w12.heap.size w12).alloc (Nat.le_refl _) (.cells #[.int .i64 a2, .int .i64 q2, .string val, .bool z2] 27)))))); have HB12 := Lib.hid (below_two HB11.out b12); clear p1 p2; have p1 := HP.out.cell 1 _ rfl; have p2 := HP.out.cell 2 _ rfl; clear b12 h13)
              | (go_at_call 11; with_reducible refine (RA.out _ _ (HL12.out.2.1)).mono ?_; rintro e w13 ⟨x15, rfl, h15, b13⟩; have X16 := Lib.hid (Bk.new w13 [.int .i64 r.ts, .int .i64 r.rd, .string r.val, .bool r.done] 27 rfl); have b13 := b13.alloc b13.size (.cells #[.int .i64 r.ts, .int .i64 r.rd, .string r.val, .bool r.done] 27); have HP := Lib.hid (HP.out.step b13); have X12 := Lib.hid (X12.out.step b13); have X14 := Lib.hid (X14.out.step b13); have HL13 := Lib.hid (And.intro ((HL12.out.1).below b13) (And.intro ((HL12.out.2.1).below b13) (And.intro ((HL12.out.2.2.1).below b13) (And.intro ((HL12.out.2.2.2).below b13) (h15.below ((Below.refl w13.heap.size w13).alloc (Nat.le_refl _) (.cells #[.int .i64 r.ts, .int .i64 r.rd, .string r.val, .bool r.done] 27))))))); have HB13 := Lib.hid (below_two HB12.out b13); clear p1 p2; have p1 := HP.out.cell 1 _ rfl; have p2 := HP.out.cell 2 _ rfl; clear b13 h15)
              | (go_at_call 11; with_reducible refine (RW.out _ _ (HL13.out.1)).mono ?_; rintro e w14 ⟨x17, rfl, h17, b14⟩; have X18 := Lib.hid (Bk.new w14 [.int .i64 r.ts, .int .i64 r.rd, .string r.val, .bool r.done] 27 rfl); have b14 := b14.alloc b14.size (.cells #[.int .i64 r.ts, .int .i64 r.rd, .string r.val, .bool r.done] 27); have HP := Lib.hid (HP.out.step b14); have X12 := Lib.hid (X12.out.step b14); have X14 := Lib.hid (X14.out.step b14); have X16 := Lib.hid (X16.out.step b14); have HL14 := Lib.hid (And.intro ((HL13.out.1).below b14) (And.intro ((HL13.out.2.1).below b14) (And.intro ((HL13.out.2.2.1).below b14) (And.intro ((HL13.out.2.2.2.1).below b14) (And.intro ((HL13.out.2.2.2.2).below b14) (h17.below ((Below.refl w14.heap.size w14).alloc (Nat.le_refl _) (.cells #[.int .i64 r.ts, .int .i64 r.rd, .string r.val, .bool r.done] 27)))))))); have HB14 := Lib.hid (below_two HB13.out b14); clear p1 p2; have p1 := HP.out.cell 1 _ rfl; have p2 := HP.out.cell 2 _ rfl; clear b14 h17))
            have HCx := Lib.hid ((HL14.out.1))
            change Code.wp Try.prog _ _ _ (w14.alloc (.cells #[.int .i64 r.ts, .int .i64 r.rd, .string r.val, .bool r.done] 27))
            generalize (w14.alloc (.cells #[.int .i64 r.ts, .int .i64 r.rd, .string r.val, .bool r.done] 27)) = wz at *
            go_quiet (fail)
            have HX12 := Lib.hid (X12.out.step (still_b nq))
            have HX14 := Lib.hid (X14.out.step (still_b nq))
            have HX16 := Lib.hid (X16.out.step (still_b nq))
            have HX18 := Lib.hid (X18.out.step (still_b nq))
            have HPz := Lib.hid (HP.out.step (still_b nq))
            have HBz := Lib.hid (below_two HB14.out (still_b nq))
            clear p1 p2
            generalize wz.drewN nq = wy at *
            have p1 := HPz.out.cell 1 _ rfl
            have p2 := HPz.out.cell 2 _ rfl
            have i0 := HX12.out.cell 0 _ rfl
            have i2 := HX12.out.cell 2 _ rfl
            have i3 := HX12.out.cell 3 _ rfl
            have j2 := HX14.out.cell 2 _ rfl
            have k0 := HX16.out.cell 0 _ rfl
            have k2 := HX16.out.cell 2 _ rfl
            have l0 := HX18.out.cell 0 _ rfl
            have l2 := HX18.out.cell 2 _ rfl
            go_wp2_with fail
            go_ret
            exact ⟨rfl, HBz.out⟩

end Go.Proofs.Ytgbicdaljnegfaa
