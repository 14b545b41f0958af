/-
  Walks of layer stamp's laws: StampRises.
-/
import Derived.Test.YtcndghkeondbpaaStOverW
import Derived.Test.YtcndghkeondbpaaStDds
namespace Go.Proofs.Ytcndghkeondbpaa
open Go.RowKit Go.Maps

/-- Min, and Next, at whatever later world -/
theorem mins_of {w : World} {g b m : Nat} {c : T.Ck} (h : Hc w g b m c) : ∀ W, Hid (Below w.heap.size w W) → Calls Try.prog 19 #[.pointer (some ⟨g, 0, none⟩)] W fun e w' => e = .returned (.int .i64 c.min) ∧ Below W.heap.size W w' :=
  fun _ hb => min_any (h.step hb.out)
theorem nexts_of {w : World} {g b m : Nat} {c : T.Ck} (h : Hc w g b m c) : ∀ W, Hid (Below w.heap.size w W) → Calls Try.prog 18 #[.pointer (some ⟨g, 0, none⟩)] W fun e w' => e = .returned (.int .i64 c.next) ∧ W = w' :=
  fun _ hb => next_any (h.step hb.out)

set_option maxRecDepth 100000 in
set_option maxHeartbeats 4000000 in
theorem StampRises_walk (w : World) (n : Int) (h0 : 0 ≤ n) (h1 : n ≤ 65535) (vd : Value) (ld : List Dd9) (G0 : Nat → Prop) (hD : Dds9 w G0 vd ld) (hG0 : ∀ b, G0 b → b < w.heap.size) :
    Calls Try.prog 4 #[.int .u16 n, vd] w fun e w' => e = .returned (.bool true) ∧ Below w.heap.size w w' := by
  have HD := Lib.hid hD
  obtain ⟨Ad, capd, rfl, hcd⟩ := hD.form
  clear hD
  have HMay : Hid (T.mayB (1 + n) = true) := Lib.hid (decide_eq_true (by unfold T.most; omega))
  have HN : Hid (∀ W, Calls Try.prog 10 #[.int .i64 (1 + n)] W fun e w' => ∃ g b, e = .returned (.pointer (some ⟨g, 0, none⟩)) ∧ W.heap.size ≤ g ∧ W.heap.size ≤ b ∧ Hc w' g b 0 (T.Ck.new (1 + n)) ∧ Below W.heap.size W w') := Lib.hid (fun W => new_ex _ HMay.out W)
  clear HMay
  go_enter Try.func4, Try.ntmps4
  go_wp2_with (first
    | (go_at_call 9; refine (awake9_any w).mono ?_; rintro e w1 ⟨rfl, b1⟩))
  have B1 := Lib.hid b1
  clear b1
  go_wp2_with (first
    | (go_at_call 10; refine (HN.out w1).mono ?_; rintro e w2 ⟨g, b, rfl, hg, hb, k2, b2⟩))
  have G : Hid (w.heap.size ≤ g) := Lib.hid (Nat.le_trans B1.out.size hg)
  have B : Hid (w.heap.size ≤ b) := Lib.hid (Nat.le_trans B1.out.size hb)
  have B2 : Hid (Below w.heap.size w w2) := Lib.hid (B1.out.trans (b2.mono B1.out.size))
  have I0 := Lib.hid (min_of k2 (x := 1 + n) rfl)
  clear b2 hg hb B1 k2 HN
  go_wp2_with (first
    | (go_at_call 19; refine I0.out.mono ?_; rintro e w3 ⟨rfl, k3, b3⟩))
  have B3 : Hid (Below w.heap.size w w3) := Lib.hid (B2.out.trans (b3.mono B2.out.size))
  have HC3 : Hid (∃ c : T.Ck, Hc w3 g b 0 c ∧ n < c.next ∧ 1 + n ≤ c.min) := Lib.hid ⟨_, k3, by show n < 1 + n; omega, Int.le_refl _⟩
  clear b3 k3 B2 I0
  go_wp2
  go_loopw [7, 8, 9] (fun vl vm v wr => ∃ (i : Nat) (last low : Int), i ≤ 100 ∧ v = .int .i64 (i : Int) ∧ vl = .int .i64 last ∧ vm = .int .i64 low ∧ 0 ≤ last ∧ Hid (Below w.heap.size w wr) ∧ Hid (∃ c : T.Ck, Hc wr g b i c ∧ last < c.next ∧ low ≤ c.min)) (fun _ _ v _ => 100 - (intOf v).toNat)
  case atStart => exact ⟨0, n, 1 + n, by omega, rfl, rfl, rfl, h0, B3, HC3⟩
  case round =>
    clear B3 HC3
    obtain ⟨i, last, low, hi, rfl, rfl, rfl, hlast, HB, HC⟩ := hrel
    obtain ⟨c, hc, hn, hl⟩ := HC.out
    clear HC
    by_cases hil : i < ld.length ∧ i < 100
    · obtain ⟨hil, hi1⟩ := hil
      have hil' : (i : Int) < (ld.length : Int) := by omega
      have hi1' : (i : Int) < 100 := by omega
      have hi0' : (0 : Int) ≤ (i : Int) := by omega
      obtain ⟨ad, _, ed, _, hGd, hok, xk, xn⟩ := (HD.out.below HB.out hG0).nth i hil
      cases ed
      generalize ld[i] = X at *
      obtain ⟨kd, nd⟩ := X
      obtain ⟨_, _, hn0, hn1⟩ := hok
      dsimp only at xk xn hn0 hn1
      have NL := Lib.hid hn
      have ML := Lib.hid hl
      clear hn hl
      by_cases e1 : kd = 1
      · subst e1
        clear xn
        by_cases ho : c.next ≤ T.most
        · obtain ⟨e1, e2, e3, e4⟩ := issue_yes ho
          have I1 := Lib.hid (issue_of hc (by omega) e1 e2 rfl)
          have NX : Hid (c.next < c.issue.next) := Lib.hid (by rw [e3]; omega)
          have MX : Hid (low ≤ c.issue.min) := Lib.hid (Int.le_trans ML.out (T.Ck.min_issue hc.ok))
          have hlt := NL.out
          clear e1 e2 e3 e4 ho hc ML NL
          generalize c.issue = d at *
          generalize c.next = p at *
          have m1 : ¬ p ≤ last := by omega
          have m2 : decide (p ≤ last) = false := decide_eq_false m1
          have m3 : max last p = p := by omega
          have m4 : 0 ≤ p := by omega
          clear hlt
          go_wp2_with (first
            | (go_at_call 12; refine I1.out.mono ?_; rintro e w3 ⟨rfl, k3, b3⟩))
          have HB3 : Hid (Below w.heap.size w w3) := Lib.hid (HB.out.trans (b3.below G.out B.out HB.out.size))
          have K3 : Hid (Hc w3 g b (i + 1) d) := Lib.hid k3
          have HM := Lib.hid (mins_of K3.out)
          have HX := Lib.hid (nexts_of K3.out)
          have hbt : Hid (Below w3.heap.size w3 w3) := Lib.hid (Below.refl _ _)
          have q1' := MX.out
          have q2' := T.Ck.min_next K3.out.ok
          clear b3 k3 I1 MX
          have HE : Hid (d.min = d.min) := Lib.hid rfl
          generalize hq : d.min = q at HM q1' q2'
          have HQ := Lib.hid hq
          clear hq HE
          have q1 : ¬ q < low := by omega
          have q2 : decide (q < low) = false := decide_eq_false q1
          generalize hp : d.next = p9 at HX q2'
          have HP := Lib.hid hp
          clear hp
          have q3 : ¬ q > p9 := by omega
          have q4 : decide (q > p9) = false := decide_eq_false q3
          clear q1' q2'
          go_wp2_with (first
            | (go_at_call 19; refine (HM.out _ hbt).mono ?_; rintro e w4 ⟨rfl, b4⟩; replace hbt := Lib.hid (hbt.out.trans (b4.mono hbt.out.size)); clear b4)
            | (go_at_call 18; refine (HX.out _ hbt).mono ?_; rintro e w5 ⟨rfl, rfl⟩))
          go_roundw
          case rel => exact ⟨i + 1, p, q, by omega, by go_num, by go_num, rfl, m4, Lib.hid (HB3.out.trans (hbt.out.mono HB3.out.size)), Lib.hid ⟨d, K3.out.step hbt.out, NX.out, Int.le_of_eq HQ.out.symm⟩⟩
          case measure => simp [intOf]; omega
        · obtain ⟨e1, e2, e3⟩ := issue_no (c := c) (by omega)
          have I1 := Lib.hid (issue_of hc (by omega) e1 e2 e3)
          have NX := NL
          have MX := ML
          have m3 : max last 0 = last := by omega
          clear e1 e2 e3 ho hc ML NL
          generalize hd : c = d at *
          clear hd
          go_wp2_with (first
            | (go_at_call 12; refine I1.out.mono ?_; rintro e w3 ⟨rfl, k3, b3⟩))
          have HB3 : Hid (Below w.heap.size w w3) := Lib.hid (HB.out.trans (b3.below G.out B.out HB.out.size))
          have K3 : Hid (Hc w3 g b (i + 1) d) := Lib.hid k3
          have HM := Lib.hid (mins_of K3.out)
          have HX := Lib.hid (nexts_of K3.out)
          have hbt : Hid (Below w3.heap.size w3 w3) := Lib.hid (Below.refl _ _)
          have q1' := MX.out
          have q2' := T.Ck.min_next K3.out.ok
          clear b3 k3 I1 MX
          have HE : Hid (d.min = d.min) := Lib.hid rfl
          generalize hq : d.min = q at HM q1' q2'
          have HQ := Lib.hid hq
          clear hq HE
          have q1 : ¬ q < low := by omega
          have q2 : decide (q < low) = false := decide_eq_false q1
          generalize hp : d.next = p9 at HX q2'
          have HP := Lib.hid hp
          clear hp
          have q3 : ¬ q > p9 := by omega
          have q4 : decide (q > p9) = false := decide_eq_false q3
          clear q1' q2'
          go_wp2_with (first
            | (go_at_call 19; refine (HM.out _ hbt).mono ?_; rintro e w4 ⟨rfl, b4⟩; replace hbt := Lib.hid (hbt.out.trans (b4.mono hbt.out.size)); clear b4)
            | (go_at_call 18; refine (HX.out _ hbt).mono ?_; rintro e w5 ⟨rfl, rfl⟩))
          go_roundw
          case rel => exact ⟨i + 1, last, q, by omega, by go_num, by go_num, rfl, hlast, Lib.hid (HB3.out.trans (hbt.out.mono HB3.out.size)), Lib.hid ⟨d, K3.out.step hbt.out, NX.out, Int.le_of_eq HQ.out.symm⟩⟩
          case measure => simp [intOf]; omega
      · have f1 : (kd == 1) = false := by simpa using e1
        by_cases e2 : kd = 2
        · subst e2
          have I1 := Lib.hid (done_of hc nd hn0 hn1 rfl rfl)
          have NX : Hid (last < (c.done nd).next) := NL
          have MX : Hid (low ≤ (c.done nd).min) := Lib.hid (Int.le_trans ML.out (T.Ck.min_done hc.ok nd))
          clear hc ML NL e1 f1
          generalize c.done nd = d at *
          generalize c.is nd = is at *
          go_wp2_with (first
            | (go_at_call 14; refine I1.out.mono ?_; rintro e w3 ⟨rfl, k3, b3⟩))
          have HB3 : Hid (Below w.heap.size w w3) := Lib.hid (HB.out.trans (b3.below G.out B.out HB.out.size))
          have K3 : Hid (Hc w3 g b (i + 1) d) := Lib.hid (k3.mono (by omega))
          have HM := Lib.hid (mins_of K3.out)
          have HX := Lib.hid (nexts_of K3.out)
          have hbt : Hid (Below w3.heap.size w3 w3) := Lib.hid (Below.refl _ _)
          have q1' := MX.out
          have q2' := T.Ck.min_next K3.out.ok
          clear b3 k3 I1 MX
          have HE : Hid (d.min = d.min) := Lib.hid rfl
          generalize hq : d.min = q at HM q1' q2'
          have HQ := Lib.hid hq
          clear hq HE
          have q1 : ¬ q < low := by omega
          have q2 : decide (q < low) = false := decide_eq_false q1
          generalize hp : d.next = p9 at HX q2'
          have HP := Lib.hid hp
          clear hp
          have q3 : ¬ q > p9 := by omega
          have q4 : decide (q > p9) = false := decide_eq_false q3
          clear q1' q2'
          go_wp2_with (first
            | (go_at_call 19; refine (HM.out _ hbt).mono ?_; rintro e w4 ⟨rfl, b4⟩; replace hbt := Lib.hid (hbt.out.trans (b4.mono hbt.out.size)); clear b4)
            | (go_at_call 18; refine (HX.out _ hbt).mono ?_; rintro e w5 ⟨rfl, rfl⟩))
          go_roundw
          case rel => exact ⟨i + 1, last, q, by omega, by go_num, by go_num, rfl, hlast, Lib.hid (HB3.out.trans (hbt.out.mono HB3.out.size)), Lib.hid ⟨d, K3.out.step hbt.out, NX.out, Int.le_of_eq HQ.out.symm⟩⟩
          case measure => simp [intOf]; omega
        · have f2 : (kd == 2) = false := by simpa using e2
          have I1 := Lib.hid (raise_of hc nd hn0 hn1 rfl)
          have NX : Hid (last < (c.raise nd).next) := Lib.hid (Int.lt_of_lt_of_le NL.out (T.Ck.next_raise nd))
          have MX : Hid (low ≤ (c.raise nd).min) := Lib.hid (Int.le_trans ML.out (T.Ck.min_raise hc.ok nd))
          clear hc ML NL e1 e2
          generalize c.raise nd = d at *
          go_wp2_with (first
            | (go_at_call 16; refine I1.out.mono ?_; rintro e w3 ⟨rfl, k3, b3⟩))
          have HB3 : Hid (Below w.heap.size w w3) := Lib.hid (HB.out.trans (b3.below G.out B.out HB.out.size))
          have K3 : Hid (Hc w3 g b (i + 1) d) := Lib.hid (k3.mono (by omega))
          have HM := Lib.hid (mins_of K3.out)
          have HX := Lib.hid (nexts_of K3.out)
          have hbt : Hid (Below w3.heap.size w3 w3) := Lib.hid (Below.refl _ _)
          have q1' := MX.out
          have q2' := T.Ck.min_next K3.out.ok
          clear b3 k3 I1 MX
          have HE : Hid (d.min = d.min) := Lib.hid rfl
          generalize hq : d.min = q at HM q1' q2'
          have HQ := Lib.hid hq
          clear hq HE
          have q1 : ¬ q < low := by omega
          have q2 : decide (q < low) = false := decide_eq_false q1
          generalize hp : d.next = p9 at HX q2'
          have HP := Lib.hid hp
          clear hp
          have q3 : ¬ q > p9 := by omega
          have q4 : decide (q > p9) = false := decide_eq_false q3
          clear q1' q2'
          go_wp2_with (first
            | (go_at_call 19; refine (HM.out _ hbt).mono ?_; rintro e w4 ⟨rfl, b4⟩; replace hbt := Lib.hid (hbt.out.trans (b4.mono hbt.out.size)); clear b4)
            | (go_at_call 18; refine (HX.out _ hbt).mono ?_; rintro e w5 ⟨rfl, rfl⟩))
          go_roundw
          case rel => exact ⟨i + 1, last, q, by omega, by go_num, by go_num, rfl, hlast, Lib.hid (HB3.out.trans (hbt.out.mono HB3.out.size)), Lib.hid ⟨d, K3.out.step hbt.out, NX.out, Int.le_of_eq HQ.out.symm⟩⟩
          case measure => simp [intOf]; omega
    · have hNo : ¬ ((i : Int) < (ld.length : Int)) ∨ ((i : Int) < (ld.length : Int) ∧ ¬ ((i : Int) < 100)) := by omega
      clear hc hn hl hil
      rcases hNo with hNo | ⟨hNo1, hNo⟩
      · go_wp2
        go_ret
        exact ⟨rfl, HB.out⟩
      · go_wp2
        go_ret
        exact ⟨rfl, HB.out⟩

end Go.Proofs.Ytcndghkeondbpaa
