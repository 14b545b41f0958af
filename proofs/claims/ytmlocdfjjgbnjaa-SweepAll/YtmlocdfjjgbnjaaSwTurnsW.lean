/-
  Walks of layer sweep's laws: SweepTurns.
-/
import Derived.Test.YtmlocdfjjgbnjaaSwLaw4
import Derived.Test.YtmlocdfjjgbnjaaJS
import Derived.Test.YtmlocdfjjgbnjaaJW
namespace Go.Proofs.Ytmlocdfjjgbnjaa
open Go.RowKit

theorem act_cases (act : List Int) : decide ((act.length : Int) > 20) = true ∨ (decide ((act.length : Int) > 20) = false ∧ act.length ≤ 20) := by
  by_cases h2 : act.length > 20
  · exact Or.inl (decide_eq_true (by omega))
  · exact Or.inr ⟨decide_eq_false (by omega), by omega⟩
theorem Bk.below_of {w w' : World} {p : Nat} {vs : List Value} {B : Nat} (h : Bk w p vs) (hb : Below B w w') (hp : p < B) : Bk w' p vs := h.below hb hp

section
variable {H : World → (Nat → Prop) → Value → Cl.Cs → Prop}
set_option maxRecDepth 100000 in
set_option maxHeartbeats 16000000 in
theorem SweepTurns_walk (K : SweepOk H) (KL : CellsOk H) (w : World) (vl va : Value) (l : Cl.Cs) (G : Nat → Prop) (act : List Int) (tk : Cl.Ky) (batch : Int) (b0 : -9223372036854775808 ≤ batch) (b1 : batch ≤ 9223372036854775807) (hS : Cla w G vl l) (hG : ∀ b, G b → b < w.heap.size) (hR : ∀ p ∈ l, RngC p.2) (hA : Ln w va act) (hRA : RngN act) :
    Calls Try.prog 7 #[vl, va, .agg #[.int .i64 tk.kind, .int .i64 tk.a, .int .i64 tk.b, .int .i64 batch]] w fun e w' => e = .returned (.bool true) ∧ Below w.heap.size w w' := by
  have hbt : Below w.heap.size w (w.alloc (.cells #[.int .i64 tk.kind, .int .i64 tk.a, .int .i64 tk.b, .int .i64 batch] 52)) := (Below.refl _ _).alloc (Nat.le_refl _) _
  have hkt := Bk.new w [.int .i64 tk.kind, .int .i64 tk.a, .int .i64 tk.b, .int .i64 batch] 52 rfl
  have HBt := Lib.hid hbt
  have HKt := Lib.hid hkt
  have HSt := Lib.hid (hS.below hbt hG)
  have HAt := Lib.hid (hA.below hbt)
  have HG := Lib.hid (fun b (h : G b) => Nat.lt_of_lt_of_le (hG b h) hbt.size)
  have HR := Lib.hid hR
  have HRA := Lib.hid hRA
  have HK := Lib.hid K
  have HKL := Lib.hid KL
  obtain ⟨A, cap, rfl, hcap⟩ := hS.form
  obtain ⟨B, capb, rfl, hcapb⟩ := hA.form
  clear hS hA hR hRA hbt hkt hG
  by_cases hf : Few13 l
  · have HFe : Hid (∀ W, Below (w.alloc (.cells #[.int .i64 tk.kind, .int .i64 tk.a, .int .i64 tk.b, .int .i64 batch] 52)).heap.size (w.alloc (.cells #[.int .i64 tk.kind, .int .i64 tk.a, .int .i64 tk.b, .int .i64 batch] 52)) W → Calls Try.prog 24 #[.slice A l.length cap] W fun e w' => e = .returned (.bool true) ∧ Below W.heap.size W w') := Lib.hid (fun W hb => few13_yes (HSt.out.below hb HG.out) (fun b q => Nat.lt_of_lt_of_le (HG.out b q) hb.size) hf)
    have HFw := Lib.hid hf
    clear hf
    rcases act_cases act with d2 | ⟨d2, l2⟩
    · go_enter Try.func7, Try.ntmps7
      go_wp2_with (first
        | (go_at_call 9; refine (awake13_any HK.out _).mono ?_; rintro e w0 ⟨rfl, b2⟩; have HB0 := Lib.hid b2; clear b2)
        | (go_at_call 24; refine (HFe.out _ HB0.out).mono ?_; rintro e w1 ⟨rfl, b2⟩; have HB1 := Lib.hid (below_two HB0.out b2); clear b2))
      go_ret
      exact ⟨rfl, below_two HBt.out HB1.out⟩
    · go_enter Try.func7, Try.ntmps7
      obtain ⟨n0, hn0⟩ : ∃ n0, n0 = min l.length 20 := ⟨_, rfl⟩
      have HFi : Hid (∀ W, Below (w.alloc (.cells #[.int .i64 tk.kind, .int .i64 tk.a, .int .i64 tk.b, .int .i64 batch] 52)).heap.size (w.alloc (.cells #[.int .i64 tk.kind, .int .i64 tk.a, .int .i64 tk.b, .int .i64 batch] 52)) W → Calls Try.prog 25 #[.slice A l.length cap] W fun e w' => ∃ v vx, e = .returned (.tuple #[v, vx]) ∧ Bw H W w' v (Sw.fillK l n0) vx (Sw.fillK l n0) [] ∧ Below W.heap.size W w') := Lib.hid (fun W hb => by rw [hn0]; exact filled13_any KL (HSt.out.below hb HG.out) (fun b q => Nat.lt_of_lt_of_le (HG.out b q) hb.size) HFw.out)
      have HX1 : Hid (Cl.Fit 20 (Sw.fillK l n0)) := Lib.hid ((Sw.fillK_fit l HFw.out n0 (by omega) (by omega)).more (by omega))
      have HX2 : Hid (Cl.Ord (Sw.fillK l n0)) := Lib.hid (Sw.fillK_ord l n0 (by omega))
      have HX3 : Hid (∀ p ∈ Sw.fillK l n0, RngC p.2) := Lib.hid (Sw.fillK_all l HR.out n0 (by omega))
      have HX5 : Hid (∀ p ∈ Sw.fillK l n0, p.2.length ≤ 20) := Lib.hid (Sw.fillK_ch l HFw.out n0 (by omega) (by omega))
      clear hn0
      generalize Sw.fillK l n0 = X at *
      have HX4 : Hid (Sw.RngX X) := Lib.hid ⟨fun p hp v hv => (HX3.out p hp v hv).t1⟩
      by_cases hb1' : batch < 1
      · have hm0 : Sw.many X batch = 0 := by unfold Sw.many; omega
        have hb1 := hb1'
        clear hb1'
        have HF200 : Hid (Cl.Fit 200 X) := Lib.hid (HX1.out.more (by omega))
        have Q : ∀ W, (binOp .eql 50 (.agg #[.int .i64 tk.kind, .int .i64 tk.a, .int .i64 tk.b]) (.agg #[.int .i64 tk.kind, .int .i64 tk.a, .int .i64 tk.b])).run Try.prog W = .ok (.bool true) W := fun W => by rw [eqlK, Cl.same_self]
        have HSw : Hid (∀ W0 W v vx, Bw H W0 W v X vx X [nmR (.slice B act.length capb) act] → Below W0.heap.size W0 W → Calls Try.prog 26 #[v, .slice B act.length capb, .agg #[.int .i64 tk.kind, .int .i64 tk.a, .int .i64 tk.b], .int .i64 batch] W fun e w' => e = .returned (.tuple #[.agg #[.int .i64 tk.kind, .int .i64 tk.a, .int .i64 tk.b], .int .i64 0]) ∧ Bw H W0 w' v X vx X [nmR (.slice B act.length capb) act] ∧ Below W0.heap.size W0 w') := Lib.hid (fun W0 W v vx h hb => by
          have := h.sweep HK.out (List.mem_cons_self ..) hb (HX1.out.more (by omega)) HX3.out (by omega) HRA.out tk batch b0 b1
          obtain ⟨e1, e2, e3⟩ := Sw.many_zero (X := X) (k := tk) hm0 act
          rw [e1, e2, e3] at this
          exact this)
        have d1 : decide (batch < 1) = true := decide_eq_true hb1
        clear hm0
        go_wp2_with (first
          |(go_at_call 9; refine (awake13_any HK.out _).mono ?_; rintro e w0 ⟨rfl, b2⟩; have HB0 := Lib.hid b2; clear b2)
          | (go_at_call 24; refine (HFe.out _ HB0.out).mono ?_; rintro e w2 ⟨rfl, b2⟩; have HB2 := Lib.hid (below_two HB0.out b2); clear b2 HFe)
          | (go_at_call 25; refine (HFi.out _ HB2.out).mono ?_; rintro e w3 ⟨v1, vx, rfl, hl3, b3⟩
             obtain ⟨Gx, hGx, _⟩ := hl3.cls
             obtain ⟨A9, c9, rfl, hc9⟩ := Cls.form hGx
             have HL3 := Lib.hid hl3
             have HB3 := Lib.hid b3
             have HK2 := Lib.hid (HKt.out.step HB2.out)
             have HA2 := Lib.hid (HAt.out.below HB2.out)
             have HK3 := Lib.hid (HK2.out.below_of b3 HK2.out.lt)
             have y0 := HK3.out.cell 0 _ rfl
             have y1 := HK3.out.cell 1 _ rfl
             have y2 := HK3.out.cell 2 _ rfl
             have y3 := HK3.out.cell 3 _ rfl
             clear hl3 b3 HFi hGx)
          | (go_at_call 26
             obtain ⟨Fa, hsa, hFa⟩ := HA2.out
             have HL3r := Lib.hid (HL3.out.arg HB3.out (nmR (.slice B act.length capb) act) (S.Sg.below hsa HB3.out hFa) hFa)
             refine (HSw.out _ _ _ _ HL3r.out HB3.out).mono ?_
             rintro e w4 ⟨rfl, hl4, b4⟩
             have hb5 : Below w4.heap.size w4 (w4.alloc (.cells #[.int .i64 tk.kind, .int .i64 tk.a, .int .i64 tk.b] 50)) := (Below.refl _ _).alloc (Nat.le_refl _) _
             have HB5 := Lib.hid (below_two b4 hb5)
             have HL5 := Lib.hid (hl4.low HKL.out hb5)
             have HN5 := Lib.hid (Bk.new w4 [.int .i64 tk.kind, .int .i64 tk.a, .int .i64 tk.b] 50 rfl)
             have HP5 : Hid (w2.heap.size ≤ w4.heap.size) := Lib.hid b4.size
             have HK5 := Lib.hid (HK2.out.below_of HB5.out HK2.out.lt)
             have z0 := HK5.out.cell 0 _ rfl
             have z1 := HK5.out.cell 1 _ rfl
             have z2 := HK5.out.cell 2 _ rfl
             have z3 := HK5.out.cell 3 _ rfl
             have n0 := HN5.out.cell 0 _ rfl
             have n1 := HN5.out.cell 1 _ rfl
             have n2 := HN5.out.cell 2 _ rfl
             clear hsa hFa hl4 b4 hb5 y0 y1 y2 y3 HL3r HL3 HB3 HK3 HSw)
          | (go_at_call 27; refine (HL5.out.keys HKL.out HB5.out HF200.out).mono ?_; rintro e w6 ⟨v6, rfl, hl6, b6⟩
             obtain ⟨G6, hs6, _⟩ := hl6.row (List.mem_cons_self ..)
             obtain ⟨_, A6, c6, e6, _⟩ := hs6
             obtain rfl : v6 = .slice A6 X.length c6 := e6
             have HB6 := Lib.hid b6
             clear hl6 b6))
        go_ret
        exact ⟨rfl, below_two HBt.out (below_two HB2.out HB6.out)⟩
      · by_cases hx0 : X.length = 0
        · have hm0 : Sw.many X batch = 0 := by unfold Sw.many; omega
          have hb1 := hb1'
          clear hb1'
          have HF200 : Hid (Cl.Fit 200 X) := Lib.hid (HX1.out.more (by omega))
          have Q : ∀ W, (binOp .eql 50 (.agg #[.int .i64 tk.kind, .int .i64 tk.a, .int .i64 tk.b]) (.agg #[.int .i64 tk.kind, .int .i64 tk.a, .int .i64 tk.b])).run Try.prog W = .ok (.bool true) W := fun W => by rw [eqlK, Cl.same_self]
          have HSw : Hid (∀ W0 W v vx, Bw H W0 W v X vx X [nmR (.slice B act.length capb) act] → Below W0.heap.size W0 W → Calls Try.prog 26 #[v, .slice B act.length capb, .agg #[.int .i64 tk.kind, .int .i64 tk.a, .int .i64 tk.b], .int .i64 batch] W fun e w' => e = .returned (.tuple #[.agg #[.int .i64 tk.kind, .int .i64 tk.a, .int .i64 tk.b], .int .i64 0]) ∧ Bw H W0 w' v X vx X [nmR (.slice B act.length capb) act] ∧ Below W0.heap.size W0 w') := Lib.hid (fun W0 W v vx h hb => by
            have := h.sweep HK.out (List.mem_cons_self ..) hb (HX1.out.more (by omega)) HX3.out (by omega) HRA.out tk batch b0 b1
            obtain ⟨e1, e2, e3⟩ := Sw.many_zero (X := X) (k := tk) hm0 act
            rw [e1, e2, e3] at this
            exact this)
          have d1 : decide (batch < 1) = false := decide_eq_false hb1
          have d3 : ((X.length : Int) == 0) = true := by simpa using hx0
          clear hm0
          go_wp2_with (first
            |(go_at_call 9; refine (awake13_any HK.out _).mono ?_; rintro e w0 ⟨rfl, b2⟩; have HB0 := Lib.hid b2; clear b2)
            | (go_at_call 24; refine (HFe.out _ HB0.out).mono ?_; rintro e w2 ⟨rfl, b2⟩; have HB2 := Lib.hid (below_two HB0.out b2); clear b2 HFe)
            | (go_at_call 25; refine (HFi.out _ HB2.out).mono ?_; rintro e w3 ⟨v1, vx, rfl, hl3, b3⟩
               obtain ⟨Gx, hGx, _⟩ := hl3.cls
               obtain ⟨A9, c9, rfl, hc9⟩ := Cls.form hGx
               have HL3 := Lib.hid hl3
               have HB3 := Lib.hid b3
               have HK2 := Lib.hid (HKt.out.step HB2.out)
               have HA2 := Lib.hid (HAt.out.below HB2.out)
               have HK3 := Lib.hid (HK2.out.below_of b3 HK2.out.lt)
               have y0 := HK3.out.cell 0 _ rfl
               have y1 := HK3.out.cell 1 _ rfl
               have y2 := HK3.out.cell 2 _ rfl
               have y3 := HK3.out.cell 3 _ rfl
               clear hl3 b3 HFi hGx)
            | (go_at_call 26
               obtain ⟨Fa, hsa, hFa⟩ := HA2.out
               have HL3r := Lib.hid (HL3.out.arg HB3.out (nmR (.slice B act.length capb) act) (S.Sg.below hsa HB3.out hFa) hFa)
               refine (HSw.out _ _ _ _ HL3r.out HB3.out).mono ?_
               rintro e w4 ⟨rfl, hl4, b4⟩
               have hb5 : Below w4.heap.size w4 (w4.alloc (.cells #[.int .i64 tk.kind, .int .i64 tk.a, .int .i64 tk.b] 50)) := (Below.refl _ _).alloc (Nat.le_refl _) _
               have HB5 := Lib.hid (below_two b4 hb5)
               have HL5 := Lib.hid (hl4.low HKL.out hb5)
               have HN5 := Lib.hid (Bk.new w4 [.int .i64 tk.kind, .int .i64 tk.a, .int .i64 tk.b] 50 rfl)
               have HP5 : Hid (w2.heap.size ≤ w4.heap.size) := Lib.hid b4.size
               have HK5 := Lib.hid (HK2.out.below_of HB5.out HK2.out.lt)
               have z0 := HK5.out.cell 0 _ rfl
               have z1 := HK5.out.cell 1 _ rfl
               have z2 := HK5.out.cell 2 _ rfl
               have z3 := HK5.out.cell 3 _ rfl
               have n0 := HN5.out.cell 0 _ rfl
               have n1 := HN5.out.cell 1 _ rfl
               have n2 := HN5.out.cell 2 _ rfl
               clear hsa hFa hl4 b4 hb5 y0 y1 y2 y3 HL3r HL3 HB3 HK3 HSw)
            | (go_at_call 27; refine (HL5.out.keys HKL.out HB5.out HF200.out).mono ?_; rintro e w6 ⟨v6, rfl, hl6, b6⟩
               obtain ⟨G6, hs6, _⟩ := hl6.row (List.mem_cons_self ..)
               obtain ⟨_, A6, c6, e6, _⟩ := hs6
               obtain rfl : v6 = .slice A6 X.length c6 := e6
               have HB6 := Lib.hid b6
               clear hl6 b6))
          go_ret
          exact ⟨rfl, below_two HBt.out (below_two HB2.out HB6.out)⟩
        · have hb1 := hb1'
          clear hb1'
          have hb2 : 1 ≤ batch := by omega
          have hxn : 0 < X.length := by omega
          have hn20 : X.length ≤ 20 := HX1.out.len
          obtain ⟨m, hm⟩ : ∃ m, m = Sw.many X batch := ⟨_, rfl⟩
          have hm1 : 0 < m := by rw [hm]; unfold Sw.many; omega
          have hm2 : m ≤ X.length := by rw [hm]; unfold Sw.many; omega
          have HMi : Hid (∀ i : Nat, i < X.length → ((i : Int) < batch ↔ i < m)) := Lib.hid (fun i hi => by rw [hm]; unfold Sw.many; omega)
          have HMn : Hid (min batch (X.length : Int) = (m : Int)) := Lib.hid (by rw [hm]; unfold Sw.many; omega)
          obtain ⟨nk, hnk⟩ : ∃ nk, nk = Sw.nextK X tk m := ⟨_, rfl⟩
          obtain ⟨gone, hgone⟩ : ∃ gone, gone = Sw.goneI act ((Sw.rot X tk).take m) := ⟨_, rfl⟩
          obtain ⟨X', hX'⟩ : ∃ X', X' = Sw.sweepS X act (Sw.takenK X tk m) := ⟨_, rfl⟩
          have HNK := Lib.hid hnk
          have HGo := Lib.hid hgone
          have HXp := Lib.hid hX'
          have HF' : Hid (Cl.Fit 200 X') := Lib.hid (by rw [hX']; exact sweep_fit (HX1.out.more (by omega)))
          have HSw : Hid (∀ W0 W v vx, Bw H W0 W v X vx X [nmR (.slice B act.length capb) act] → Below W0.heap.size W0 W → Calls Try.prog 26 #[v, .slice B act.length capb, .agg #[.int .i64 tk.kind, .int .i64 tk.a, .int .i64 tk.b], .int .i64 batch] W fun e w' => e = .returned (.tuple #[.agg #[.int .i64 nk.kind, .int .i64 nk.a, .int .i64 nk.b], .int .i64 gone]) ∧ Bw H W0 w' v X' vx X [nmR (.slice B act.length capb) act] ∧ Below W0.heap.size W0 w') := Lib.hid (fun W0 W v vx h hb => by
            have := h.sweep HK.out (List.mem_cons_self ..) hb (HX1.out.more (by omega)) HX3.out (by omega) HRA.out tk batch b0 b1
            rw [← hm, ← hnk, ← hgone, ← hX'] at this
            exact this)
          have d1 : decide (batch < 1) = false := decide_eq_false hb1
          have d3 : ((X.length : Int) == 0) = false := by simpa using hx0
          clear hnk hgone hX' hm hx0
          go_wp2_with (first
            | (go_at_call 9; refine (awake13_any HK.out _).mono ?_; rintro e w0 ⟨rfl, b2⟩; have HB0 := Lib.hid b2; clear b2)
            | (go_at_call 24; refine (HFe.out _ HB0.out).mono ?_; rintro e w2 ⟨rfl, b2⟩; have HB2 := Lib.hid (below_two HB0.out b2); clear b2 HFe)
            | (go_at_call 25; refine (HFi.out _ HB2.out).mono ?_; rintro e w3 ⟨v1, vx, rfl, hl3, b3⟩
               obtain ⟨Gx, hGx, _⟩ := hl3.cls
               obtain ⟨A9, c9, rfl, hc9⟩ := Cls.form hGx
               have HL3 := Lib.hid hl3
               have HB3 := Lib.hid b3
               have HK2 := Lib.hid (HKt.out.step HB2.out)
               have HA2 := Lib.hid (HAt.out.below HB2.out)
               have HK3 := Lib.hid (HK2.out.below_of b3 HK2.out.lt)
               have y0 := HK3.out.cell 0 _ rfl
               have y1 := HK3.out.cell 1 _ rfl
               have y2 := HK3.out.cell 2 _ rfl
               have y3 := HK3.out.cell 3 _ rfl
               clear hl3 b3 HFi hGx)
            | (go_at_call 26
               obtain ⟨Fa, hsa, hFa⟩ := HA2.out
               have HL3r := Lib.hid (HL3.out.arg HB3.out (nmR (.slice B act.length capb) act) (S.Sg.below hsa HB3.out hFa) hFa)
               refine (HSw.out _ _ _ _ HL3r.out HB3.out).mono ?_
               rintro e w4 ⟨rfl, hl4, b4⟩
               have hb5 : Below w4.heap.size w4 (w4.alloc (.cells #[.int .i64 nk.kind, .int .i64 nk.a, .int .i64 nk.b] 50)) := (Below.refl _ _).alloc (Nat.le_refl _) _
               have HB5 := Lib.hid (below_two b4 hb5)
               have HL5 := Lib.hid (hl4.low HKL.out hb5)
               have HN5 := Lib.hid (Bk.new w4 [.int .i64 nk.kind, .int .i64 nk.a, .int .i64 nk.b] 50 rfl)
               have HP5 : Hid (w2.heap.size ≤ w4.heap.size) := Lib.hid b4.size
               have HK5 := Lib.hid (HK2.out.below_of HB5.out HK2.out.lt)
               have z0 := HK5.out.cell 0 _ rfl
               have z1 := HK5.out.cell 1 _ rfl
               have z2 := HK5.out.cell 2 _ rfl
               have z3 := HK5.out.cell 3 _ rfl
               have n0 := HN5.out.cell 0 _ rfl
               have n1 := HN5.out.cell 1 _ rfl
               have n2 := HN5.out.cell 2 _ rfl
               clear hsa hFa hl4 b4 hb5 y0 y1 y2 y3 HL3r HL3 HB3 HK3 HSw))
          generalize hw5 : w4.alloc (.cells #[.int .i64 nk.kind, .int .i64 nk.a, .int .i64 nk.b] 50) = w5 at *
          obtain ⟨p, hp⟩ : ∃ p, p = w4.heap.size := ⟨_, rfl⟩
          rw [← hp] at HN5 ⊢
          have HKW : Hid (∀ W, Below w5.heap.size w5 W → Bk W w.heap.size [.int .i64 tk.kind, .int .i64 tk.a, .int .i64 tk.b, .int .i64 batch]) := Lib.hid (fun W hb => HK5.out.step hb)
          have HNW : Hid (∀ W, Below w5.heap.size w5 W → Bk W p [.int .i64 nk.kind, .int .i64 nk.a, .int .i64 nk.b]) := Lib.hid (fun W hb => HN5.out.step hb)
          have HXW : Hid (∀ W, Below w5.heap.size w5 W → ∀ i (hi : i < X.length), ∃ a A c, A9 = some a ∧ W.cell? (a.add (i * 4)) = some (.int .i64 X[i].1.kind) ∧ W.cell? ⟨(a.add (i * 4)).block, (a.add (i * 4)).off + 1, none⟩ = some (.int .i64 X[i].1.a) ∧ W.cell? ⟨(a.add (i * 4)).block, (a.add (i * 4)).off + 2, none⟩ = some (.int .i64 X[i].1.b) ∧ W.cell? ⟨(a.add (i * 4)).block, (a.add (i * 4)).off + 3, none⟩ = some (.slice A X[i].2.length c) ∧ Lc W (.slice A X[i].2.length c) X[i].2) := Lib.hid (fun W hb i hi => by
            obtain ⟨Gx, hGx, hlt⟩ := (HL5.out.low HKL.out hb).cls
            obtain ⟨a, cap, A, c, e, _, _, y0, y1, y2, y3, y4⟩ := hGx.nth i hi
            exact ⟨a, A, c, (Value.slice.inj e).1, y0, y1, y2, y3, ⟨Gx, y4, hlt⟩⟩)
          obtain ⟨ax, hax⟩ : ∃ ax, A9 = some ax := by
            obtain ⟨a, _, _, e, _⟩ := HXW.out w5 (Below.refl _ _) 0 hxn
            exact ⟨a, e⟩
          subst hax
          have HXW : Hid (∀ W, Below w5.heap.size w5 W → ∀ i (hi : i < X.length), ∃ A c, W.cell? (ax.add (i * 4)) = some (.int .i64 X[i].1.kind) ∧ W.cell? ⟨(ax.add (i * 4)).block, (ax.add (i * 4)).off + 1, none⟩ = some (.int .i64 X[i].1.a) ∧ W.cell? ⟨(ax.add (i * 4)).block, (ax.add (i * 4)).off + 2, none⟩ = some (.int .i64 X[i].1.b) ∧ W.cell? ⟨(ax.add (i * 4)).block, (ax.add (i * 4)).off + 3, none⟩ = some (.slice A X[i].2.length c) ∧ Lc W (.slice A X[i].2.length c) X[i].2) := Lib.hid (fun W hb i hi => by
            obtain ⟨a, A, c, e, h⟩ := HXW.out W hb i hi
            obtain rfl : ax = a := Option.some.inj e
            exact ⟨A, c, h⟩)
          have HXC : Hid (∀ W, Below w5.heap.size w5 W → ∃ G : Nat → Prop, Cls W G (.slice (some ax) X.length c9) X ∧ ∀ b, G b → b < W.heap.size) := Lib.hid (fun W hb => (HL5.out.low HKL.out hb).cls)
          have HXS : Hid (∀ W, Below w5.heap.size w5 W → ∀ {W0}, Below w5.heap.size w5 W0 → ∀ i (hi : i < X.length), W.cell? ⟨(ax.add (i * 4)).block, (ax.add (i * 4)).off + 3, none⟩ = W0.cell? ⟨(ax.add (i * 4)).block, (ax.add (i * 4)).off + 3, none⟩) := Lib.hid (fun W hb W0 hb0 i hi => by
            obtain ⟨G, hG, hlt⟩ := HL5.out.cls
            obtain ⟨a2, _, _, _, e, _, ha2, _⟩ := hG.nth i hi
            obtain rfl : ax = a2 := Option.some.inj (Value.slice.inj e).1
            have hl : (⟨(ax.add (i * 4)).block, (ax.add (i * 4)).off + 3, none⟩ : Addr).block < w5.heap.size := by show (ax.add (i * 4)).block < _; rw [S.add_block]; exact hlt _ ha2
            exact (hb.cell hl).trans (hb0.cell hl).symm)
          have HAW : Hid (∀ W, Below w5.heap.size w5 W → Ln W (.slice B act.length capb) act) := Lib.hid (fun W hb => (HL5.out.low HKL.out hb).ln (List.mem_cons_self ..))
          have HCW : Hid (∀ W, Below w5.heap.size w5 W → ∀ kk, Calls Try.prog 29 #[v1, keyA kk] W fun e w' => ∃ v', e = .returned v' ∧ Lc w' v' (Cl.chain X' kk) ∧ Below W.heap.size W w') := Lib.hid (fun W hb kk => by
            obtain ⟨F, h1, h2, h3, h4⟩ := HL5.out.low HKL.out hb
            refine (KL.chain h1 HF'.out kk).mono (fun e w' hh => ?_)
            obtain ⟨v', e, g1, g2⟩ := hh
            exact ⟨v', e, Lc.of_new g1, g2⟩)
          have HBF : Hid (Below w.heap.size w w5) := Lib.hid (below_two HBt.out (below_two HB2.out HB5.out))
          clear hw5 hp z0 z1 z2 z3 n0 n1 n2 HK5 HN5 HL5 HB5 HK2 HA2 HB2 HB0 HP5 HBt HKt HSt HAt HG HFw
          go_loopw [12] (fun av wr => ∃ a : Nat, a ≤ X.length ∧ av = .int .i64 (a : Int) ∧ Hid (∀ j (hj : j < X.length), j < a → Cl.less X[j].1 tk = true) ∧ Hid (Below w5.heap.size w5 wr)) (fun av _ => X.length - (intOf av).toNat)
          case atStart => exact ⟨0, Nat.zero_le _, rfl, Lib.hid (fun j _ h => absurd h (Nat.not_lt_zero _)), Lib.hid (Below.refl _ _)⟩
          case round =>
            obtain ⟨a, ha, rfl, HI, HB⟩ := hrel
            by_cases hlt : a < X.length
            · have hlt' : (a : Int) < (X.length : Int) := by omega
              have dlt : decide ((a : Int) < (X.length : Int)) = true := decide_eq_true hlt'
              have ha0 : (0 : Int) ≤ (a : Int) := by omega
              have HBd : Hid (Below w5.heap.size w5 wr.drew) := Lib.hid (HB.out.trans ((Below.drew (Below.refl wr.heap.size wr)).mono HB.out.size))
              have HS6 : Hid (∀ W, Below w5.heap.size w5 W → W.cell? (ax.add (a * 4)) = some (.int .i64 X[a].1.kind) ∧ W.cell? ⟨(ax.add (a * 4)).block, (ax.add (a * 4)).off + 1, none⟩ = some (.int .i64 X[a].1.a) ∧ W.cell? ⟨(ax.add (a * 4)).block, (ax.add (a * 4)).off + 2, none⟩ = some (.int .i64 X[a].1.b) ∧ W.cell? ⟨w.heap.size, 0, none⟩ = some (.int .i64 tk.kind) ∧ W.cell? ⟨w.heap.size, 1, none⟩ = some (.int .i64 tk.a) ∧ W.cell? ⟨w.heap.size, 2, none⟩ = some (.int .i64 tk.b)) := Lib.hid (fun W hb => by
                obtain ⟨A2, c2, y0, y1, y2, _⟩ := HXW.out _ hb a hlt
                exact ⟨y0, y1, y2, (HKW.out _ hb).cell 0 _ rfl, (HKW.out _ hb).cell 1 _ rfl, (HKW.out _ hb).cell 2 _ rfl⟩)
              have HLs : Hid (∀ W, Calls Try.prog 28 #[.agg #[.int .i64 X[a].1.kind, .int .i64 X[a].1.a, .int .i64 X[a].1.b], .agg #[.int .i64 tk.kind, .int .i64 tk.a, .int .i64 tk.b]] W fun e w' => e = .returned (.bool (Cl.less X[a].1 tk)) ∧ Below W.heap.size W w') := Lib.hid (fun W => rless11_any X[a].1 tk W)
              have HI2 : Hid (Cl.less X[a].1 tk = true → ∀ j (hj : j < X.length), j < a + 1 → Cl.less X[j].1 tk = true) := Lib.hid (fun h j hj hja => by
                by_cases e : j = a
                · subst e; exact h
                · exact HI.out j hj (by omega))
              have HAt : Hid (Cl.less X[a].1 tk = false → Sw.atK X tk = a) := Lib.hid (fun h => Sw.atK_at hlt HI.out h)
              generalize X[a].1 = ka at *
              have hS6 := HS6.out _ HBd.out
              cases hls : Cl.less ka tk with
              | true =>
                rw [hls] at HLs
                have HI3 := Lib.hid (HI2.out hls)
                clear hls HI2 HAt
                go_wp2_with fail
                go_region_held3 (fun W => W.cell? (ax.add (a * 4)) = some (.int .i64 ka.kind) ∧ W.cell? ⟨(ax.add (a * 4)).block, (ax.add (a * 4)).off + 1, none⟩ = some (.int .i64 ka.a) ∧ W.cell? ⟨(ax.add (a * 4)).block, (ax.add (a * 4)).off + 2, none⟩ = some (.int .i64 ka.b) ∧ W.cell? ⟨w.heap.size, 0, none⟩ = some (.int .i64 tk.kind) ∧ W.cell? ⟨w.heap.size, 1, none⟩ = some (.int .i64 tk.a) ∧ W.cell? ⟨w.heap.size, 2, none⟩ = some (.int .i64 tk.b))
                  (first | with_reducible assumption | go_keep)
                  (first
                    | (go_at_call 28
                       (with_reducible refine (HLs.out _).mono ?_)
                       rintro e w7 ⟨rfl, hb7⟩
                       have HB7 := Lib.hid (below_two HBd.out hb7)
                       have hA6 := HS6.out _ HB7.out))
                clear hA6
                go_wp2_with fail
                go_roundw
                case rel => exact ⟨a + 1, by omega, by go_num, HI3, HB7⟩
                case measure => simp [intOf]; omega
              | false =>
                rw [hls] at HLs
                have HAe := Lib.hid (HAt.out hls)
                clear hls HI2 HAt
                go_wp2_with fail
                go_region_held3 (fun W => W.cell? (ax.add (a * 4)) = some (.int .i64 ka.kind) ∧ W.cell? ⟨(ax.add (a * 4)).block, (ax.add (a * 4)).off + 1, none⟩ = some (.int .i64 ka.a) ∧ W.cell? ⟨(ax.add (a * 4)).block, (ax.add (a * 4)).off + 2, none⟩ = some (.int .i64 ka.b) ∧ W.cell? ⟨w.heap.size, 0, none⟩ = some (.int .i64 tk.kind) ∧ W.cell? ⟨w.heap.size, 1, none⟩ = some (.int .i64 tk.a) ∧ W.cell? ⟨w.heap.size, 2, none⟩ = some (.int .i64 tk.b))
                  (first | with_reducible assumption | go_keep)
                  (first
                    | (go_at_call 28
                       (with_reducible refine (HLs.out _).mono ?_)
                       rintro e w7 ⟨rfl, hb7⟩
                       have HB7 := Lib.hid (below_two HBd.out hb7)
                       have hA6 := HS6.out _ HB7.out))
                clear hA6 hS6 HS6 HLs HI HB HBd dlt
                go_wp2_with fail
                go_loopw [13, 14] (fun wv iv wr => ∃ (i : Nat) (want : Int), i ≤ X.length ∧ 0 ≤ want ∧ want ≤ 20 * (i : Int) ∧ wv = .int .i64 want ∧ iv = .int .i64 (i : Int) ∧ Hid (want = Sw.goneI act ((Sw.rot X tk).take (min i m))) ∧ Hid (Below w5.heap.size w5 wr)) (fun _ iv _ => X.length - (intOf iv).toNat)
                case atStart => exact ⟨0, 0, Nat.zero_le _, Int.le_refl _, by omega, rfl, rfl, Lib.hid (by simp [Sw.goneI]), HB7⟩
                case round =>
                  clear HB7
                  obtain ⟨i, want, hi, hw0, hw1, rfl, rfl, HW, HB⟩ := hrel
                  by_cases hil : i < X.length
                  · have hil' : (i : Int) < (X.length : Int) := by omega
                    have hi0 : (0 : Int) ≤ (i : Int) := by omega
                    obtain ⟨j, hj⟩ : ∃ j, j = (a + i) % X.length := ⟨_, rfl⟩
                    have hjl : j < X.length := by rw [hj]; exact Nat.mod_lt _ hxn
                    have hjl' : (j : Int) < (X.length : Int) := by omega
                    have hj0 : (0 : Int) ≤ (j : Int) := by omega
                    have hj1 : ((a : Int) + (i : Int)) % (X.length : Int) = (j : Int) := by rw [hj, Int.natCast_emod, Int.natCast_add]
                    have hj2 : ((a : Int) + (i : Int)).tmod (X.length : Int) = (j : Int) := by rw [Int.tmod_eq_emod_of_nonneg (by omega)]; exact hj1
                    have hje : (Sw.atK X tk + i) % X.length = j := by rw [HAe.out, ← hj]
                    have HGs : Hid (Sw.goneI act ((Sw.rot X tk).take (i + 1)) = Sw.goneI act ((Sw.rot X tk).take i) + ((X[j].2.length : Int) - ((Sw.pruneC X[j].2 act).length : Int))) := Lib.hid (by
                      have := Sw.gone_snoc (act := act) (k := tk) hil (by rw [hje]; exact hjl)
                      simp only [hje] at this
                      exact this)
                    have HSA : Hid (Cl.chain X' X[j].1 = if i < m then Sw.prunedC X[j].2 act else X[j].2) := Lib.hid (by
                      have := Sw.swept_at (act := act) (k := tk) (m := m) HX2.out HX4.out hil (by rw [hje]; exact hjl)
                      simp only [hje] at this
                      rw [HXp.out]
                      exact this)
                    have hmem := List.getElem_mem hjl
                    have hcl : X[j].2.length ≤ 20 := HX5.out _ hmem
                    have HCm : Hid (X[j].2 ≠ []) := Lib.hid (fun e => by
                      obtain ⟨_, _, e2, _⟩ := (HX2.out.may _ hmem).first
                      rw [e] at e2
                      cases e2)
                    obtain ⟨Aj, cj, y0, y1, y2, y3, hlc⟩ := HXW.out _ HB.out j hjl
                    have HY6 : Hid (∀ W, Below w5.heap.size w5 W → W.cell? (ax.add (j * 4)) = some (.int .i64 X[j].1.kind) ∧ W.cell? ⟨(ax.add (j * 4)).block, (ax.add (j * 4)).off + 1, none⟩ = some (.int .i64 X[j].1.a) ∧ W.cell? ⟨(ax.add (j * 4)).block, (ax.add (j * 4)).off + 2, none⟩ = some (.int .i64 X[j].1.b) ∧ W.cell? ⟨(ax.add (j * 4)).block, (ax.add (j * 4)).off + 3, none⟩ = some (.slice Aj X[j].2.length cj)) := Lib.hid (fun W hb => by
                      obtain ⟨Gx, hGx, hlt⟩ := HXC.out _ hb
                      obtain ⟨a2, _, A2, c2, e2, _, _, u0, u1, u2, u3, _⟩ := hGx.nth j hjl
                      obtain rfl : ax = a2 := Option.some.inj (Value.slice.inj e2).1
                      have hs := HXS.out _ hb HB.out j hjl
                      rw [y3] at hs
                      exact ⟨u0, u1, u2, hs⟩)
                    have HLC : Hid (∀ W, Below wr.heap.size wr W → Lc W (.slice Aj X[j].2.length cj) X[j].2) := Lib.hid (fun W hb => hlc.below hb)
                    have z3 := (HKW.out _ HB.out).cell 3 _ rfl
                    have HCh0 : Hid (∀ W, Below w5.heap.size w5 W → Calls Try.prog 29 #[v1, .agg #[.int .i64 X[j].1.kind, .int .i64 X[j].1.a, .int .i64 X[j].1.b]] W fun e w' => ∃ v', e = .returned v' ∧ Lc w' v' (Cl.chain X' X[j].1) ∧ Below W.heap.size W w') := Lib.hid (fun W hb => HCW.out W hb X[j].1)
                    clear hlc hmem hje hj
                    generalize X[j].1 = kk at *
                    generalize X[j].2 = cc at *
                    by_cases him : i < m
                    · have d5 : decide ((i : Int) < batch) = true := decide_eq_true ((HMi.out i hil).2 him)
                      have HSA2 : Hid (Cl.chain X' kk = Sw.prunedC cc act) := Lib.hid (by rw [HSA.out, if_pos him])
                      rw [HSA2.out] at HCh0
                      obtain ⟨pl, hpl⟩ : ∃ pl, pl = (Sw.pruneC cc act).length := ⟨_, rfl⟩
                      have HPL : Hid ((Sw.pruneC cc act).length = pl) := Lib.hid hpl.symm
                      have hpl2 : pl ≤ cc.length := by rw [hpl]; exact Sw.prune_sub.length_le
                      have HG2 : Hid (want + (cc.length : Int) - (pl : Int) = Sw.goneI act ((Sw.rot X tk).take (min (i + 1) m))) := Lib.hid (by
                        rw [show min (i + 1) m = i + 1 by omega, HGs.out, HPL.out, HW.out, show min i m = i by omega]
                        omega)
                      have HPr : Hid (Calls Try.prog 17 #[.slice Aj cc.length cj, .slice B act.length capb] wr fun e w' => ∃ v', e = .returned v' ∧ Lc w' v' (Sw.pruneC cc act) ∧ Below wr.heap.size wr w') := Lib.hid (rprune13L (HLC.out _ (Below.refl _ _)) (by omega) (HAW.out _ HB.out) (by omega))
                      by_cases hy : Sw.pruneC cc act = []
                      · have d6 : ((pl : Int) == 0) = true := by rw [hpl, hy]; rfl
                        have HFr : Hid (Sw.prunedC cc act = Cn.fresh) := Lib.hid (by unfold Sw.prunedC; rw [if_pos hy])
                        rw [HFr.out] at HCh0
                        clear hy hpl HSA HSA2 HGs HLC HCm him
                        go_wp2_with (first
                          | (go_at_call 17; refine HPr.out.mono ?_; rintro e w8 ⟨v8, rfl, h8, b8⟩
                             obtain ⟨A8, c8, rfl, _⟩ := h8.form
                             rw [HPL.out]
                             have HB8 := Lib.hid (below_two HB.out b8)
                             have ba : Below w8.heap.size w8 (w8.alloc (.cells #[.int .i64 0, .int .i64 0, .string ⟨#[]⟩, .bool true] 38)) := (Below.refl _ _).alloc (Nat.le_refl _) _
                             have HB9 := Lib.hid (below_two HB8.out ba)
                             have HFs : Hid (Lc (w8.alloc (.cells #[.int .i64 0, .int .i64 0, .string ⟨#[]⟩, .bool true] 38)) (.slice (some ⟨w8.heap.size, 0, none⟩) 1 1) Cn.fresh) := Lib.hid ⟨_, sg_row4 w8 38 #[.int .i64 0, .int .i64 0, .string ⟨#[]⟩, .bool true] rfl, fun b q => by subst q; simp⟩
                             obtain ⟨y0, y1, y2, y3⟩ := HY6.out _ HB8.out
                             obtain ⟨x0, x1, x2, _⟩ := HY6.out _ HB9.out
                             clear h8 b8 ba HPr HB8)
                          | (go_at_call 29; refine (HCh0.out _ HB9.out).mono ?_; rintro e w10 ⟨v10, rfl, h10, b10⟩; have HB10 := Lib.hid (below_two HB9.out b10); have H10 := Lib.hid h10; have HF10 := Lib.hid (HFs.out.below b10); clear h10 b10 HCh0 HFs)
                          | (go_at_call 15; refine (real13L H10.out (by decide)).mono ?_; rintro e w11 ⟨v11, rfl, h11, b11⟩; have HB11 := Lib.hid (below_two HB10.out b11); have H11 := Lib.hid h11; have HF11 := Lib.hid (HF10.out.below b11); clear h11 b11 HF10)
                          | (go_at_call 14; refine (same13L H11.out HF11.out (by decide)).mono ?_; rintro e w12 ⟨rfl, b12⟩; have HB12 := Lib.hid (below_two HB11.out b12); clear b12))
                        go_roundw
                        case rel => exact ⟨i + 1, want + (cc.length : Int) - (pl : Int), by omega, by omega, by omega, by go_num, by go_num, HG2, HB12⟩
                        case measure => simp [intOf]; omega
                      · have d6 : ((pl : Int) == 0) = false := by
                          have : pl ≠ 0 := fun e => hy (List.length_eq_zero_iff.1 (by rw [← hpl, e]))
                          simpa using this
                        have HFr : Hid (Sw.prunedC cc act = Sw.pruneC cc act) := Lib.hid (by unfold Sw.prunedC; rw [if_neg hy])
                        rw [HFr.out] at HCh0
                        have HPl2 : Hid ((Sw.pruneC cc act).length ≤ 1000) := Lib.hid (by rw [← hpl]; omega)
                        clear hy hpl HSA HSA2 HGs HLC HCm him
                        go_wp2_with (first
                          | (go_at_call 17; refine HPr.out.mono ?_; rintro e w8 ⟨v8, rfl, h8, b8⟩
                             obtain ⟨A8, c8, rfl, _⟩ := h8.form
                             have H8 := Lib.hid h8
                             rw [HPL.out]
                             have HB9 := Lib.hid (below_two HB.out b8)
                             have HFs : Hid (Lc w8 (.slice A8 pl c8) (Sw.pruneC cc act)) := Lib.hid (by rw [← HPL.out]; exact H8.out)
                             obtain ⟨x0, x1, x2, x3⟩ := HY6.out _ HB9.out
                             clear h8 b8 HPr H8)
                          | (go_at_call 29; refine (HCh0.out _ HB9.out).mono ?_; rintro e w10 ⟨v10, rfl, h10, b10⟩; have HB10 := Lib.hid (below_two HB9.out b10); have H10 := Lib.hid h10; have HF10 := Lib.hid (HFs.out.below b10); clear h10 b10 HCh0 HFs)
                          | (go_at_call 15; refine (real13L H10.out HPl2.out).mono ?_; rintro e w11 ⟨v11, rfl, h11, b11⟩; have HB11 := Lib.hid (below_two HB10.out b11); have H11 := Lib.hid h11; have HF11 := Lib.hid (HF10.out.below b11); clear h11 b11 HF10)
                          | (go_at_call 14; refine (same13L H11.out HF11.out HPl2.out).mono ?_; rintro e w12 ⟨rfl, b12⟩; have HB12 := Lib.hid (below_two HB11.out b12); clear b12))
                        go_roundw
                        case rel => exact ⟨i + 1, want + (cc.length : Int) - (pl : Int), by omega, by omega, by omega, by go_num, by go_num, HG2, HB12⟩
                        case measure => simp [intOf]; omega
                    · have d5 : decide ((i : Int) < batch) = false := decide_eq_false (fun q => him ((HMi.out i hil).1 q))
                      have HSA2 : Hid (Cl.chain X' kk = cc) := Lib.hid (by rw [HSA.out, if_neg him])
                      rw [HSA2.out] at HCh0
                      have d6 : ((cc.length : Int) == 0) = false := by
                        have : cc.length ≠ 0 := fun e => HCm.out (List.length_eq_zero_iff.1 e)
                        simpa using this
                      have HG2 : Hid (want = Sw.goneI act ((Sw.rot X tk).take (min (i + 1) m))) := Lib.hid (by
                        rw [show min (i + 1) m = min i m by omega]
                        exact HW.out)
                      clear HSA HSA2 HGs HCm him
                      go_wp2_with (first
                        | (go_at_call 29; refine (HCh0.out _ HB.out).mono ?_; rintro e w10 ⟨v10, rfl, h10, b10⟩; have HB10 := Lib.hid (below_two HB.out b10); have H10 := Lib.hid h10; have HF10 := Lib.hid (HLC.out _ b10); clear h10 b10 HCh0 HLC)
                        | (go_at_call 15; refine (real13L H10.out (by omega)).mono ?_; rintro e w11 ⟨v11, rfl, h11, b11⟩; have HB11 := Lib.hid (below_two HB10.out b11); have H11 := Lib.hid h11; have HF11 := Lib.hid (HF10.out.below b11); clear h11 b11 HF10)
                        | (go_at_call 14; refine (same13L H11.out HF11.out (by omega)).mono ?_; rintro e w12 ⟨rfl, b12⟩; have HB12 := Lib.hid (below_two HB11.out b12); clear b12))
                      go_roundw
                      case rel => exact ⟨i + 1, want, by omega, by omega, by omega, rfl, by go_num, HG2, HB12⟩
                      case measure => simp [intOf]; omega
                  · obtain rfl : i = X.length := by omega
                    have hil' : ¬ (X.length : Int) < (X.length : Int) := by omega
                    have hwg : want = gone := by rw [HW.out, HGo.out, show min X.length m = m by omega]
                    subst hwg
                    obtain ⟨j, hj⟩ : ∃ j, j = (a + m) % X.length := ⟨_, rfl⟩
                    have hjl : j < X.length := by rw [hj]; exact Nat.mod_lt _ hxn
                    have hjl' : (j : Int) < (X.length : Int) := by omega
                    have hj0 : (0 : Int) ≤ (j : Int) := by omega
                    have hj1 : ((a : Int) + (m : Int)) % (X.length : Int) = (j : Int) := by rw [hj, Int.natCast_emod, Int.natCast_add]
                    have hj2 : ((a : Int) + (m : Int)).tmod (X.length : Int) = (j : Int) := by rw [Int.tmod_eq_emod_of_nonneg (by omega)]; exact hj1
                    have hje : (Sw.atK X tk + m) % X.length = j := by rw [HAe.out, ← hj]
                    have hkk : X[j].1 = nk := by
                      have := Sw.next_get (k := tk) hm1 hm2 (by rw [hje]; exact hjl)
                      simp only [hje] at this
                      rw [HNK.out, this]
                    obtain ⟨Aj, cj, y0, y1, y2, _, _⟩ := HXW.out _ HB.out j hjl
                    rw [hkk] at y0 y1 y2
                    have z3 := (HKW.out _ HB.out).cell 3 _ rfl
                    have n0 := (HNW.out _ HB.out).cell 0 _ rfl
                    have n1 := (HNW.out _ HB.out).cell 1 _ rfl
                    have n2 := (HNW.out _ HB.out).cell 2 _ rfl
                    have Q : ∀ W, (binOp .eql 50 (.agg #[.int .i64 nk.kind, .int .i64 nk.a, .int .i64 nk.b]) (.agg #[.int .i64 nk.kind, .int .i64 nk.a, .int .i64 nk.b])).run Try.prog W = .ok (.bool true) W := fun W => by rw [eqlK, Cl.same_self]
                    have hmn : (if (X.length : Int) < batch then (X.length : Int) else batch) = (m : Int) := by
                      have := HMn.out
                      by_cases h : (X.length : Int) < batch
                      · rw [if_pos h]; omega
                      · rw [if_neg h]; omega
                    have hwr : IntKind.i64.wrap ((a : Int) + (m : Int)) = (a : Int) + (m : Int) := IntWalk.i64_in _ (by omega)
                    clear hkk hje hj
                    go_wp2_with fail
                    go_quiet (fail)
                    rename_i nq
                    go_wp2_with fail
                    go_ret
                    exact ⟨rfl, below_two HBF.out (below_two HB.out (still_b nq))⟩
            · have hae : a = X.length := by omega
              have hlt' : ¬ (a : Int) < (X.length : Int) := by omega
              have dlt : decide ((a : Int) < (X.length : Int)) = false := decide_eq_false hlt'
              have dlt2 : decide (a < X.length) = false := decide_eq_false (by omega)
              have HAe : Hid (Sw.atK X tk = a) := Lib.hid (by rw [hae]; exact Sw.atK_end (fun j hj => HI.out j hj (by omega)))
              clear hae hlt
              go_wp2_with fail
              go_quiet (fail)
              rename_i nq
              have HB7 : Hid (Below w5.heap.size w5 (wr.drewN nq)) := Lib.hid (below_two HB.out (still_b nq))
              generalize wr.drewN nq = w7 at *
              clear HI HB dlt
              go_wp2_with fail
              go_loopw [13, 14] (fun wv iv wr => ∃ (i : Nat) (want : Int), i ≤ X.length ∧ 0 ≤ want ∧ want ≤ 20 * (i : Int) ∧ wv = .int .i64 want ∧ iv = .int .i64 (i : Int) ∧ Hid (want = Sw.goneI act ((Sw.rot X tk).take (min i m))) ∧ Hid (Below w5.heap.size w5 wr)) (fun _ iv _ => X.length - (intOf iv).toNat)
              case atStart => exact ⟨0, 0, Nat.zero_le _, Int.le_refl _, by omega, rfl, rfl, Lib.hid (by simp [Sw.goneI]), HB7⟩
              case round =>
                clear HB7
                obtain ⟨i, want, hi, hw0, hw1, rfl, rfl, HW, HB⟩ := hrel
                by_cases hil : i < X.length
                · have hil' : (i : Int) < (X.length : Int) := by omega
                  have hi0 : (0 : Int) ≤ (i : Int) := by omega
                  obtain ⟨j, hj⟩ : ∃ j, j = (a + i) % X.length := ⟨_, rfl⟩
                  have hjl : j < X.length := by rw [hj]; exact Nat.mod_lt _ hxn
                  have hjl' : (j : Int) < (X.length : Int) := by omega
                  have hj0 : (0 : Int) ≤ (j : Int) := by omega
                  have hj1 : ((a : Int) + (i : Int)) % (X.length : Int) = (j : Int) := by rw [hj, Int.natCast_emod, Int.natCast_add]
                  have hj2 : ((a : Int) + (i : Int)).tmod (X.length : Int) = (j : Int) := by rw [Int.tmod_eq_emod_of_nonneg (by omega)]; exact hj1
                  have hje : (Sw.atK X tk + i) % X.length = j := by rw [HAe.out, ← hj]
                  have HGs : Hid (Sw.goneI act ((Sw.rot X tk).take (i + 1)) = Sw.goneI act ((Sw.rot X tk).take i) + ((X[j].2.length : Int) - ((Sw.pruneC X[j].2 act).length : Int))) := Lib.hid (by
                    have := Sw.gone_snoc (act := act) (k := tk) hil (by rw [hje]; exact hjl)
                    simp only [hje] at this
                    exact this)
                  have HSA : Hid (Cl.chain X' X[j].1 = if i < m then Sw.prunedC X[j].2 act else X[j].2) := Lib.hid (by
                    have := Sw.swept_at (act := act) (k := tk) (m := m) HX2.out HX4.out hil (by rw [hje]; exact hjl)
                    simp only [hje] at this
                    rw [HXp.out]
                    exact this)
                  have hmem := List.getElem_mem hjl
                  have hcl : X[j].2.length ≤ 20 := HX5.out _ hmem
                  have HCm : Hid (X[j].2 ≠ []) := Lib.hid (fun e => by
                    obtain ⟨_, _, e2, _⟩ := (HX2.out.may _ hmem).first
                    rw [e] at e2
                    cases e2)
                  obtain ⟨Aj, cj, y0, y1, y2, y3, hlc⟩ := HXW.out _ HB.out j hjl
                  have HY6 : Hid (∀ W, Below w5.heap.size w5 W → W.cell? (ax.add (j * 4)) = some (.int .i64 X[j].1.kind) ∧ W.cell? ⟨(ax.add (j * 4)).block, (ax.add (j * 4)).off + 1, none⟩ = some (.int .i64 X[j].1.a) ∧ W.cell? ⟨(ax.add (j * 4)).block, (ax.add (j * 4)).off + 2, none⟩ = some (.int .i64 X[j].1.b) ∧ W.cell? ⟨(ax.add (j * 4)).block, (ax.add (j * 4)).off + 3, none⟩ = some (.slice Aj X[j].2.length cj)) := Lib.hid (fun W hb => by
                    obtain ⟨Gx, hGx, hlt⟩ := HXC.out _ hb
                    obtain ⟨a2, _, A2, c2, e2, _, _, u0, u1, u2, u3, _⟩ := hGx.nth j hjl
                    obtain rfl : ax = a2 := Option.some.inj (Value.slice.inj e2).1
                    have hs := HXS.out _ hb HB.out j hjl
                    rw [y3] at hs
                    exact ⟨u0, u1, u2, hs⟩)
                  have HLC : Hid (∀ W, Below wr.heap.size wr W → Lc W (.slice Aj X[j].2.length cj) X[j].2) := Lib.hid (fun W hb => hlc.below hb)
                  have z3 := (HKW.out _ HB.out).cell 3 _ rfl
                  have HCh0 : Hid (∀ W, Below w5.heap.size w5 W → Calls Try.prog 29 #[v1, .agg #[.int .i64 X[j].1.kind, .int .i64 X[j].1.a, .int .i64 X[j].1.b]] W fun e w' => ∃ v', e = .returned v' ∧ Lc w' v' (Cl.chain X' X[j].1) ∧ Below W.heap.size W w') := Lib.hid (fun W hb => HCW.out W hb X[j].1)
                  clear hlc hmem hje hj
                  generalize X[j].1 = kk at *
                  generalize X[j].2 = cc at *
                  by_cases him : i < m
                  · have d5 : decide ((i : Int) < batch) = true := decide_eq_true ((HMi.out i hil).2 him)
                    have HSA2 : Hid (Cl.chain X' kk = Sw.prunedC cc act) := Lib.hid (by rw [HSA.out, if_pos him])
                    rw [HSA2.out] at HCh0
                    obtain ⟨pl, hpl⟩ : ∃ pl, pl = (Sw.pruneC cc act).length := ⟨_, rfl⟩
                    have HPL : Hid ((Sw.pruneC cc act).length = pl) := Lib.hid hpl.symm
                    have hpl2 : pl ≤ cc.length := by rw [hpl]; exact Sw.prune_sub.length_le
                    have HG2 : Hid (want + (cc.length : Int) - (pl : Int) = Sw.goneI act ((Sw.rot X tk).take (min (i + 1) m))) := Lib.hid (by
                      rw [show min (i + 1) m = i + 1 by omega, HGs.out, HPL.out, HW.out, show min i m = i by omega]
                      omega)
                    have HPr : Hid (Calls Try.prog 17 #[.slice Aj cc.length cj, .slice B act.length capb] wr fun e w' => ∃ v', e = .returned v' ∧ Lc w' v' (Sw.pruneC cc act) ∧ Below wr.heap.size wr w') := Lib.hid (rprune13L (HLC.out _ (Below.refl _ _)) (by omega) (HAW.out _ HB.out) (by omega))
                    by_cases hy : Sw.pruneC cc act = []
                    · have d6 : ((pl : Int) == 0) = true := by rw [hpl, hy]; rfl
                      have HFr : Hid (Sw.prunedC cc act = Cn.fresh) := Lib.hid (by unfold Sw.prunedC; rw [if_pos hy])
                      rw [HFr.out] at HCh0
                      clear hy hpl HSA HSA2 HGs HLC HCm him
                      go_wp2_with (first
                        | (go_at_call 17; refine HPr.out.mono ?_; rintro e w8 ⟨v8, rfl, h8, b8⟩
                           obtain ⟨A8, c8, rfl, _⟩ := h8.form
                           rw [HPL.out]
                           have HB8 := Lib.hid (below_two HB.out b8)
                           have ba : Below w8.heap.size w8 (w8.alloc (.cells #[.int .i64 0, .int .i64 0, .string ⟨#[]⟩, .bool true] 38)) := (Below.refl _ _).alloc (Nat.le_refl _) _
                           have HB9 := Lib.hid (below_two HB8.out ba)
                           have HFs : Hid (Lc (w8.alloc (.cells #[.int .i64 0, .int .i64 0, .string ⟨#[]⟩, .bool true] 38)) (.slice (some ⟨w8.heap.size, 0, none⟩) 1 1) Cn.fresh) := Lib.hid ⟨_, sg_row4 w8 38 #[.int .i64 0, .int .i64 0, .string ⟨#[]⟩, .bool true] rfl, fun b q => by subst q; simp⟩
                           obtain ⟨y0, y1, y2, y3⟩ := HY6.out _ HB8.out
                           obtain ⟨x0, x1, x2, _⟩ := HY6.out _ HB9.out
                           clear h8 b8 ba HPr HB8)
                        | (go_at_call 29; refine (HCh0.out _ HB9.out).mono ?_; rintro e w10 ⟨v10, rfl, h10, b10⟩; have HB10 := Lib.hid (below_two HB9.out b10); have H10 := Lib.hid h10; have HF10 := Lib.hid (HFs.out.below b10); clear h10 b10 HCh0 HFs)
                        | (go_at_call 15; refine (real13L H10.out (by decide)).mono ?_; rintro e w11 ⟨v11, rfl, h11, b11⟩; have HB11 := Lib.hid (below_two HB10.out b11); have H11 := Lib.hid h11; have HF11 := Lib.hid (HF10.out.below b11); clear h11 b11 HF10)
                        | (go_at_call 14; refine (same13L H11.out HF11.out (by decide)).mono ?_; rintro e w12 ⟨rfl, b12⟩; have HB12 := Lib.hid (below_two HB11.out b12); clear b12))
                      go_roundw
                      case rel => exact ⟨i + 1, want + (cc.length : Int) - (pl : Int), by omega, by omega, by omega, by go_num, by go_num, HG2, HB12⟩
                      case measure => simp [intOf]; omega
                    · have d6 : ((pl : Int) == 0) = false := by
                        have : pl ≠ 0 := fun e => hy (List.length_eq_zero_iff.1 (by rw [← hpl, e]))
                        simpa using this
                      have HFr : Hid (Sw.prunedC cc act = Sw.pruneC cc act) := Lib.hid (by unfold Sw.prunedC; rw [if_neg hy])
                      rw [HFr.out] at HCh0
                      have HPl2 : Hid ((Sw.pruneC cc act).length ≤ 1000) := Lib.hid (by rw [← hpl]; omega)
                      clear hy hpl HSA HSA2 HGs HLC HCm him
                      go_wp2_with (first
                        | (go_at_call 17; refine HPr.out.mono ?_; rintro e w8 ⟨v8, rfl, h8, b8⟩
                           obtain ⟨A8, c8, rfl, _⟩ := h8.form
                           have H8 := Lib.hid h8
                           rw [HPL.out]
                           have HB9 := Lib.hid (below_two HB.out b8)
                           have HFs : Hid (Lc w8 (.slice A8 pl c8) (Sw.pruneC cc act)) := Lib.hid (by rw [← HPL.out]; exact H8.out)
                           obtain ⟨x0, x1, x2, x3⟩ := HY6.out _ HB9.out
                           clear h8 b8 HPr H8)
                        | (go_at_call 29; refine (HCh0.out _ HB9.out).mono ?_; rintro e w10 ⟨v10, rfl, h10, b10⟩; have HB10 := Lib.hid (below_two HB9.out b10); have H10 := Lib.hid h10; have HF10 := Lib.hid (HFs.out.below b10); clear h10 b10 HCh0 HFs)
                        | (go_at_call 15; refine (real13L H10.out HPl2.out).mono ?_; rintro e w11 ⟨v11, rfl, h11, b11⟩; have HB11 := Lib.hid (below_two HB10.out b11); have H11 := Lib.hid h11; have HF11 := Lib.hid (HF10.out.below b11); clear h11 b11 HF10)
                        | (go_at_call 14; refine (same13L H11.out HF11.out HPl2.out).mono ?_; rintro e w12 ⟨rfl, b12⟩; have HB12 := Lib.hid (below_two HB11.out b12); clear b12))
                      go_roundw
                      case rel => exact ⟨i + 1, want + (cc.length : Int) - (pl : Int), by omega, by omega, by omega, by go_num, by go_num, HG2, HB12⟩
                      case measure => simp [intOf]; omega
                  · have d5 : decide ((i : Int) < batch) = false := decide_eq_false (fun q => him ((HMi.out i hil).1 q))
                    have HSA2 : Hid (Cl.chain X' kk = cc) := Lib.hid (by rw [HSA.out, if_neg him])
                    rw [HSA2.out] at HCh0
                    have d6 : ((cc.length : Int) == 0) = false := by
                      have : cc.length ≠ 0 := fun e => HCm.out (List.length_eq_zero_iff.1 e)
                      simpa using this
                    have HG2 : Hid (want = Sw.goneI act ((Sw.rot X tk).take (min (i + 1) m))) := Lib.hid (by
                      rw [show min (i + 1) m = min i m by omega]
                      exact HW.out)
                    clear HSA HSA2 HGs HCm him
                    go_wp2_with (first
                      | (go_at_call 29; refine (HCh0.out _ HB.out).mono ?_; rintro e w10 ⟨v10, rfl, h10, b10⟩; have HB10 := Lib.hid (below_two HB.out b10); have H10 := Lib.hid h10; have HF10 := Lib.hid (HLC.out _ b10); clear h10 b10 HCh0 HLC)
                      | (go_at_call 15; refine (real13L H10.out (by omega)).mono ?_; rintro e w11 ⟨v11, rfl, h11, b11⟩; have HB11 := Lib.hid (below_two HB10.out b11); have H11 := Lib.hid h11; have HF11 := Lib.hid (HF10.out.below b11); clear h11 b11 HF10)
                      | (go_at_call 14; refine (same13L H11.out HF11.out (by omega)).mono ?_; rintro e w12 ⟨rfl, b12⟩; have HB12 := Lib.hid (below_two HB11.out b12); clear b12))
                    go_roundw
                    case rel => exact ⟨i + 1, want, by omega, by omega, by omega, rfl, by go_num, HG2, HB12⟩
                    case measure => simp [intOf]; omega
                · obtain rfl : i = X.length := by omega
                  have hil' : ¬ (X.length : Int) < (X.length : Int) := by omega
                  have hwg : want = gone := by rw [HW.out, HGo.out, show min X.length m = m by omega]
                  subst hwg
                  obtain ⟨j, hj⟩ : ∃ j, j = (a + m) % X.length := ⟨_, rfl⟩
                  have hjl : j < X.length := by rw [hj]; exact Nat.mod_lt _ hxn
                  have hjl' : (j : Int) < (X.length : Int) := by omega
                  have hj0 : (0 : Int) ≤ (j : Int) := by omega
                  have hj1 : ((a : Int) + (m : Int)) % (X.length : Int) = (j : Int) := by rw [hj, Int.natCast_emod, Int.natCast_add]
                  have hj2 : ((a : Int) + (m : Int)).tmod (X.length : Int) = (j : Int) := by rw [Int.tmod_eq_emod_of_nonneg (by omega)]; exact hj1
                  have hje : (Sw.atK X tk + m) % X.length = j := by rw [HAe.out, ← hj]
                  have hkk : X[j].1 = nk := by
                    have := Sw.next_get (k := tk) hm1 hm2 (by rw [hje]; exact hjl)
                    simp only [hje] at this
                    rw [HNK.out, this]
                  obtain ⟨Aj, cj, y0, y1, y2, _, _⟩ := HXW.out _ HB.out j hjl
                  rw [hkk] at y0 y1 y2
                  have z3 := (HKW.out _ HB.out).cell 3 _ rfl
                  have n0 := (HNW.out _ HB.out).cell 0 _ rfl
                  have n1 := (HNW.out _ HB.out).cell 1 _ rfl
                  have n2 := (HNW.out _ HB.out).cell 2 _ rfl
                  have Q : ∀ W, (binOp .eql 50 (.agg #[.int .i64 nk.kind, .int .i64 nk.a, .int .i64 nk.b]) (.agg #[.int .i64 nk.kind, .int .i64 nk.a, .int .i64 nk.b])).run Try.prog W = .ok (.bool true) W := fun W => by rw [eqlK, Cl.same_self]
                  have hmn : (if (X.length : Int) < batch then (X.length : Int) else batch) = (m : Int) := by
                    have := HMn.out
                    by_cases h : (X.length : Int) < batch
                    · rw [if_pos h]; omega
                    · rw [if_neg h]; omega
                  have hwr : IntKind.i64.wrap ((a : Int) + (m : Int)) = (a : Int) + (m : Int) := IntWalk.i64_in _ (by omega)
                  clear hkk hje hj
                  go_wp2_with fail
                  go_quiet (fail)
                  rename_i nq
                  go_wp2_with fail
                  go_ret
                  exact ⟨rfl, below_two HBF.out (below_two HB.out (still_b nq))⟩
  · have HFe : Hid (∀ W, Below (w.alloc (.cells #[.int .i64 tk.kind, .int .i64 tk.a, .int .i64 tk.b, .int .i64 batch] 52)).heap.size (w.alloc (.cells #[.int .i64 tk.kind, .int .i64 tk.a, .int .i64 tk.b, .int .i64 batch] 52)) W → Calls Try.prog 24 #[.slice A l.length cap] W fun e w' => e = .returned (.bool false) ∧ Below W.heap.size W w') := Lib.hid (fun W hb => few13_no (HSt.out.below hb HG.out) (fun b q => Nat.lt_of_lt_of_le (HG.out b q) hb.size) hf)
    clear hf
    go_enter Try.func7, Try.ntmps7
    go_wp2_with (first
      | (go_at_call 9; refine (awake13_any HK.out _).mono ?_; rintro e w0 ⟨rfl, b2⟩; have HB0 := Lib.hid b2; clear b2)
      | (go_at_call 24; refine (HFe.out _ HB0.out).mono ?_; rintro e w1 ⟨rfl, b2⟩; have HB1 := Lib.hid (below_two HB0.out b2); clear b2))
    go_ret
    exact ⟨rfl, below_two HBt.out HB1.out⟩
end
end Go.Proofs.Ytmlocdfjjgbnjaa
