/-
  Walks of layer scan's laws: ScanCrash.
-/
import Derived.Test.YtnjhbmjhldfdpaaScBackW
namespace Go.Proofs.Ytnjhbmjhldfdpaa
open Go.RowKit

section
variable {H : World → (Nat → Prop) → Value → D.Dk → Prop}

theorem behind_last (s : Nat) (l : List (Nat × List UInt8)) (i : Nat) (h : i + 1 = l.length) : Q.behind s l = (l[i]'(by omega)).1 := by
  unfold Q.behind
  rw [List.getLast?_eq_getElem?, show l.length - 1 = i by omega, List.getElem?_eq_getElem (by omega)]
  rfl

set_option maxRecDepth 100000 in
set_option maxHeartbeats 8000000 in
theorem ScanCrash_walk (K : DiskOk H) (KF : FrameOk) (v : Value) (l : List Dd) (w : World) (Gd : Nat → Prop) (hd : Dds w Gd v l) (hG : ∀ b, Gd b → b < w.heap.size) (hln : l.length ≤ 9223372036854775807) (vk : Value) (keep : List Bool) (Gk : Nat → Prop) (hk : SlT w Gk vk keep) (hGk : ∀ b, Gk b → b < w.heap.size) :
    Calls Try.prog 5 #[v, vk] w fun e w' => e = .returned (.bool true) ∧ Below w.heap.size w w' := by
  have HD := Lib.hid hd
  obtain ⟨Ad, capd, rfl, hcd⟩ : ∃ A cap, v = .slice A l.length cap ∧ l.length ≤ cap := by
    obtain ⟨A, cap, e, hc, _⟩ := hd
    exact ⟨A, cap, e, hc⟩
  clear hd
  have HKp := Lib.hid hk
  obtain ⟨Ak, capk, rfl, hck⟩ := Sg_form hk
  clear hk
  have HA := Lib.hid (awake7_any K KF w)
  go_enter Try.func5, Try.ntmps5
  go_wp2_with fail
  refine HA.out.mono ?_
  rintro e w1 ⟨rfl, hb1⟩
  have hs1 := hb1.size
  have HFw := Lib.hid (few6_any _ l w1 Gd (HD.out.below hb1 hG) hln)
  obtain ⟨fb, hfb⟩ : ∃ b, b = few6 l := ⟨_, rfl⟩
  rw [← hfb] at HFw
  have HFB := Lib.hid hfb
  clear HA hfb
  go_wp2_with fail
  refine HFw.out.mono ?_
  rintro e w1' ⟨rfl, rfl⟩
  clear HFw
  cases fb with
  | false =>
    go_wp2
    go_ret
    exact ⟨rfl, hb1⟩
  | true =>
    have HRn := Lib.hid (run7_any K KF _ l w1 Gd (HD.out.below hb1 hG) (fun b g => by have := hG b g; omega) HFB.out.symm)
    go_wp2_with fail
    refine HRn.out.mono ?_
    rintro e w2 ⟨da, va, vs, ve, r, L, kept, syn, n, F, Fs, rfl, hn30, hpm, hmk⟩
    have hkn := hpm.len
    have hsk := hpm.kp.le
    obtain ⟨A1, c1, rfl, hc1⟩ := Sg_form hmk.ss
    obtain ⟨A2, c2, rfl, hc2⟩ := Sg_form hmk.es
    have hba : Below w2.heap.size w2 (w2.alloc (.cells #[.pointer (some da), .pointer (some va), .slice A1 kept.length c1, .slice A2 kept.length c2, .int .i64 (syn : Int)] 55)) := (Below.refl _ _).alloc (Nat.le_refl _) _
    have hza : (w2.alloc (.cells #[.pointer (some da), .pointer (some va), .slice A1 kept.length c1, .slice A2 kept.length c2, .int .i64 (syn : Int)] 55)).heap.size = w2.heap.size + 1 := by simp
    have hzaa := Nat.le_of_eq hza
    have hzab := Nat.le_of_eq hza.symm
    have B3 := Bk.new w2 [.pointer (some da), .pointer (some va), .slice A1 kept.length c1, .slice A2 kept.length c2, .int .i64 (syn : Int)] 55 rfl
    have HM := Lib.hid (hmk.below K hba)
    have hbw : Below w.heap.size w (w2.alloc (.cells #[.pointer (some da), .pointer (some va), .slice A1 kept.length c1, .slice A2 kept.length c2, .int .i64 (syn : Int)] 55)) := hb1.trans ((hmk.below K hba).low.mono hs1)
    have nX : ¬ F w2.heap.size ∧ ¬ Fs w2.heap.size := ⟨fun g => by have := hmk.rp.lt _ g; omega, fun g => by have := (hmk.hFs _ g).2.1; omega⟩
    have hXw : w1.heap.size ≤ w2.heap.size := hmk.low.size
    have HPM := Lib.hid hpm
    have hmay := hpm.kp.hist.may
    have htop := hmay.top
    have hln2 := hmay.ln
    clear HRn hmk hpm hza hba hmay
    have x0 := B3.cell 0 _ rfl
    have x1 := B3.cell 1 _ rfl
    go_wp2_with fail
    generalize w2.alloc (.cells #[.pointer (some da), .pointer (some va), .slice A1 kept.length c1, .slice A2 kept.length c2, .int .i64 (syn : Int)] 55) = w3 at *
    generalize w2.heap.size = X at *
    have hslot : SlT w3 Gk (.slice Ak keep.length capk) keep := HKp.out.below hbw hGk
    have HCr := Lib.hid (ring_crash K HM.out.rp hslot (fun b g => by have := hGk b g; have := hbw.size; omega) (fun b g f => by have := hGk b g; have := HM.out.hF b f; omega))
    obtain ⟨j, hj1, hj2, hj3⟩ := HPM.out.kp.crash HPM.out.e32 keep []
    have hall : Q.all (r.d.crash keep) 2 8 3 r.low = (kept.take j).map Q.told := by
      rw [HPM.out.e] at hj3
      rw [all_of (r := r) HPM.out.f HPM.out.m]
      exact hj3
    obtain ⟨LL, hLL⟩ : ∃ LL, LL = (kept.take j).map Q.told := ⟨_, rfl⟩
    rw [← hLL] at hall
    have hlen : LL.length = j := by rw [hLL]; simp; omega
    obtain ⟨N, hN⟩ : ∃ N, N = Q.behind r.low LL := ⟨_, rfl⟩
    have HN := Lib.hid hN
    have HAl := Lib.hid hall
    have HLL := Lib.hid hLL
    have HLN := Lib.hid hlen
    clear hall hLL hlen hN hj3 hslot
    refine HCr.out.mono ?_
    rintro e wc ⟨rfl, hRc, htc⟩
    have HMc := Lib.hid (HM.out.turned hRc htc)
    have Bc := B3.turn htc nX.1
    have hbwc : Below w.heap.size w wc := hb1.trans (HMc.out.low.mono hs1)
    have hszc := htc.size
    have HR := Lib.hid HMc.out.rp
    have HBc := Lib.hid Bc
    clear HCr hRc htc B3 Bc x0 x1
    go_wp2_with fail
    have HK1 : Hid (∀ w', Below wc.heap.size wc w' → (w'.cell? ⟨X, 0, none⟩ = some (.pointer (some da)) ∧ w'.cell? ⟨X, 1, none⟩ = some (.pointer (some va)) ∧ Below wc.heap.size wc w')) := Lib.hid fun w' hb => ⟨(HBc.out.step hb).cell 0 _ rfl, (HBc.out.step hb).cell 1 _ rfl, hb⟩
    have HPl1 : Hid (∀ w', (w'.cell? ⟨X, 0, none⟩ = some (.pointer (some da)) ∧ w'.cell? ⟨X, 1, none⟩ = some (.pointer (some va)) ∧ Below wc.heap.size wc w') → Calls Try.prog 18 #[] w' fun e w'' => e = .returned (.agg #[.int .i64 2, .int .i64 8, .int .u32 3]) ∧ (w''.cell? ⟨X, 0, none⟩ = some (.pointer (some da)) ∧ w''.cell? ⟨X, 1, none⟩ = some (.pointer (some va)) ∧ Below wc.heap.size wc w'')) := Lib.hid fun w' hS => (place7_any w').mono (fun e w'' ⟨he, hb⟩ => ⟨he, HK1.out _ (hS.2.2.trans (hb.mono hS.2.2.size))⟩)
    have HLw1 : Hid (∀ w', (w'.cell? ⟨X, 0, none⟩ = some (.pointer (some da)) ∧ w'.cell? ⟨X, 1, none⟩ = some (.pointer (some va)) ∧ Below wc.heap.size wc w') → Calls Try.prog 19 #[.pointer (some va)] w' fun e w'' => e = .returned (.int .u32 (r.low : Int)) ∧ (w''.cell? ⟨X, 0, none⟩ = some (.pointer (some da)) ∧ w''.cell? ⟨X, 1, none⟩ = some (.pointer (some va)) ∧ Below wc.heap.size wc w'')) := Lib.hid fun w' hS => (ring_low (HR.out.below K hS.2.2)).mono (fun e w'' ⟨he, hb⟩ => ⟨he, HK1.out _ (hS.2.2.trans (hb.mono hS.2.2.size))⟩)
    have HRd1 : Hid (∀ w', (w'.cell? ⟨X, 0, none⟩ = some (.pointer (some da)) ∧ w'.cell? ⟨X, 1, none⟩ = some (.pointer (some va)) ∧ Below wc.heap.size wc w') → Calls Try.prog 14 #[.pointer (some da), .agg #[.int .i64 2, .int .i64 8, .int .u32 3], .int .u32 (r.low : Int)] w' fun e w'' => ∃ vk, e = .returned (.tuple #[vk, .int .u32 (N : Int)]) ∧ Recs w'' (fun b => wc.heap.size ≤ b ∧ b < w''.heap.size) vk LL ∧ (w''.cell? ⟨X, 0, none⟩ = some (.pointer (some da)) ∧ w''.cell? ⟨X, 1, none⟩ = some (.pointer (some va)) ∧ Below wc.heap.size wc w'')) := Lib.hid fun w' hS => (ring_scan K KF (HR.out.below K hS.2.2) 2 8 3 r.low (by decide) (by decide) (by decide) (by omega)).mono (fun e w'' ⟨vk, he, hrc, hb⟩ => by
      rw [HAl.out] at he hrc; rw [← HN.out] at he
      exact ⟨vk, he, hrc.wider (fun b g => ⟨Nat.le_trans hS.2.2.size g.1, g.2⟩), HK1.out _ (hS.2.2.trans (hb.mono hS.2.2.size))⟩)
    have hbd1 : Below wc.heap.size wc wc.drew := (Below.refl _ _).drew
    go_region_held3 (fun w' => (w'.cell? ⟨X, 0, none⟩ = some (.pointer (some da)) ∧ w'.cell? ⟨X, 1, none⟩ = some (.pointer (some va)) ∧ Below wc.heap.size wc w'))
      (first | with_reducible exact HK1.out _ hbd1 | with_reducible assumption)
      (first
        | (go_at_call 18
           with_reducible refine (HPl1.out _ (by assumption)).mono ?_
           rintro e4 w4 ⟨rfl, hS4⟩)
        | (go_at_call 19
           with_reducible refine (HLw1.out _ (by assumption)).mono ?_
           rintro e5 w5 ⟨rfl, hS5⟩)
        | (go_at_call 14
           with_reducible refine (HRd1.out _ (by assumption)).mono ?_
           rintro e6 w6 ⟨vk, rfl, hrc6, hS6⟩))
    all_goals (
      have hb6 := hS6.2.2
      obtain ⟨A9, c9, e9, hc9⟩ := hrc6.form
      rw [HLN.out] at e9 hc9
      subst e9
      have B6 := HBc.out.step hb6
      have hs6 := hb6.size
      have HM6 := Lib.hid (HMc.out.below K hb6)
      have HRc6 := Lib.hid hrc6
      have b1 := B6.cell 1 _ rfl
      have HLo := Lib.hid (ring_low (HM6.out.rp))
      have HB6 := Lib.hid B6
      clear hS6 hrc6 HK1 HPl1 HLw1 HRd1 hbd1 hS4 hS5 B6
      go_wp2_with fail
      refine HLo.out.mono ?_
      rintro e w7 ⟨rfl, hb7⟩
      have B7 := HB6.out.step hb7
      have hs7 := hb7.size
      have HM7 := Lib.hid (HM6.out.below K hb7)
      have HBg := Lib.hid (begins7_any (Fl := fun b => wc.heap.size ≤ b ∧ b < w6.heap.size) (da := da) (va := va) (syn := syn) (j := j) (by rw [← HLL.out]; exact HRc6.out.below hb7 (fun b g => g.2)) (fun b g => by have := g.2; omega) HM7.out.ss HM7.out.es (fun b g => (HM7.out.hFs b g).2.1) hj1 (by omega))
      have d0 := B7.cell 0 _ rfl
      have d1 := B7.cell 1 _ rfl
      have d2 := B7.cell 2 _ rfl
      have d3 := B7.cell 3 _ rfl
      have d4 := B7.cell 4 _ rfl
      have HB7 := Lib.hid B7
      have hsj : (syn : Int) ≤ (j : Int) := by omega
      clear HLo b1 B7
      by_cases hj0 : j = 0
      · subst hj0
        have HNN : Hid (N = r.low) := Lib.hid (by rw [HN.out, List.length_eq_zero_iff.1 HLN.out]; rfl)
        rw [HNN.out]
        go_wp2_with fail
        refine HBg.out.mono ?_
        rintro e w8 ⟨rfl, hb8⟩
        have d48 := (HB7.out.step hb8).cell 4 _ rfl
        have hbz := hbwc.trans ((below_two (below_two hb6 hb7) hb8).mono hbwc.size)
        clear HBg d0 d1 d2 d3 d4
        go_wp2
        go_ret
        exact ⟨rfl, hbz⟩
      · obtain ⟨i, hi⟩ : ∃ i, i + 1 = j := ⟨j - 1, by omega⟩
        have hij : (j : Int) - 1 = (i : Int) := by omega
        have hi0 : (0 : Int) ≤ (i : Int) := by omega
        have hi1 : (i : Int) < (j : Int) := by omega
        have hi2 : i * 2 < 9223372036854775807 := by omega
        have hj0' : (0 : Int) < (j : Int) := by omega
        have hjj : 1 ≤ j := by omega
        obtain ⟨ak, capk', vbk, e9, q1, q2, y0, q3, q4⟩ := (HRc6.out.below hb7 (fun b g => g.2)).nth i (by rw [HLN.out]; omega)
        rw [HLN.out] at e9
        cases e9
        have HNN : Hid (N = (LL[i]'(by rw [HLN.out]; omega)).1) := Lib.hid (by rw [HN.out]; exact behind_last _ _ i (by rw [HLN.out]; omega))
        rw [← HNN.out] at y0
        clear hj0 q1 q2 q3 q4 HNN hi
        go_wp2_with fail
        refine HBg.out.mono ?_
        rintro e w8 ⟨rfl, hb8⟩
        have d48 := (HB7.out.step hb8).cell 4 _ rfl
        have hbz := hbwc.trans ((below_two (below_two hb6 hb7) hb8).mono hbwc.size)
        clear HBg d0 d1 d2 d3 d4 y0
        go_wp2
        go_ret
        exact ⟨rfl, hbz⟩)
end

end Go.Proofs.Ytnjhbmjhldfdpaa
