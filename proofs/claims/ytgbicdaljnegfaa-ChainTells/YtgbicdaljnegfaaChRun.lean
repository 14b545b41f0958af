/-
  Walks of layer chain's laws' helpers: run; the law ChainMay.
-/
import Derived.Test.YtgbicdaljnegfaaChLaw2
import Derived.Test.YtgbicdaljnegfaaChDds
namespace Go.Proofs.Ytgbicdaljnegfaa
open Go.RowKit

set_option maxRecDepth 100000 in
set_option maxHeartbeats 4000000 in
theorem run10_any (K : ChainOk) {w : World} {vd : Value} {ld : List Dd10} {G0 : Nat → Prop} (hD : Dds10 w G0 vd ld) (hG0 : ∀ b, G0 b → b < w.heap.size) :
    Calls Try.prog 27 #[vd] w fun e w' => ∃ v', e = .returned v' ∧ (∃ c, Lc w' v' c ∧ Cn.J c ∧ c.length ≤ 61) ∧ Below w.heap.size w w' := by
  have HD := Lib.hid hD
  obtain ⟨Ad, capd, rfl, hcd⟩ := hD.form
  clear hD
  have H0 := Lib.hid (K.freshL w)
  go_enter Try.func27, Try.ntmps27
  go_wp2_with (first
    | (go_at_call 25; refine H0.out.mono ?_; rintro e w1 ⟨v1, rfl, hs1, b1⟩))
  have HL1 := Lib.hid hs1
  have HB1 := Lib.hid b1
  clear hs1 b1 H0
  go_loopw [3, 4] (fun vc v wr => ∃ (i : Nat) (c : Cn.Ch), i ≤ 60 ∧ v = .int .i64 (i : Int) ∧ Hid (Lc wr vc c ∧ Cn.J c ∧ c.length ≤ i + 1) ∧ Hid (Below w.heap.size w wr)) (fun _ v _ => 60 - (intOf v).toNat)
  case atStart => exact ⟨0, Cn.fresh, by omega, rfl, Lib.hid ⟨HL1.out, Cn.J.fresh, by decide⟩, HB1⟩
  case round =>
    clear HL1 HB1
    obtain ⟨i, c, hi, rfl, HC, HB⟩ := hrel
    by_cases hil : i < ld.length ∧ i < 60
    · obtain ⟨hil, hi1⟩ := hil
      have hil' : (i : Int) < (ld.length : Int) := by omega
      have hi1' : (i : Int) < 60 := by omega
      have hi0' : (0 : Int) ≤ (i : Int) := by omega
      obtain ⟨ad, _, ed, _, hGd, hok, x0, x1, x2⟩ := (HD.out.below HB.out hG0).nth i hil
      cases ed
      generalize ld[i] = Z at *
      obtain ⟨kd, td, sd⟩ := Z
      obtain ⟨_, _, t0, t1⟩ := hok
      dsimp only at x0 x1 x2 t0 t1
      have HO := Lib.hid (do10_any K HC.out.1 (by have := HC.out.2.2; omega) kd td sd t0 t1)
      have HN := Lib.hid (HC.out.2.1.deed kd td sd)
      have HN2 : Hid ((Cn.deed c kd td sd).length ≤ i + 1 + 1) := Lib.hid (by have := Cn.deed_len_le c kd td sd; have := HC.out.2.2; omega)
      generalize Cn.deed c kd td sd = d at *
      clear HC
      go_wp2_with (first
        | (go_at_call 26; refine HO.out.mono ?_; rintro e w2 ⟨v2, rfl, hs2, b2⟩))
      have HB2 := Lib.hid (below_two HB.out b2)
      have HL2 := Lib.hid (And.intro hs2 (And.intro HN.out HN2.out))
      clear hs2 b2 HO
      go_wp2_with fail
      go_roundw
      case rel => exact ⟨i + 1, d, by omega, by go_num, HL2, HB2⟩
      case measure => simp [intOf]; omega
    · have hNo : ¬ ((i : Int) < (ld.length : Int)) ∨ ((i : Int) < (ld.length : Int) ∧ ¬ ((i : Int) < 60)) := by omega
      clear hil
      rcases hNo with hNo | ⟨hNo1, hNo⟩
      · go_wp2
        go_ret
        exact ⟨_, rfl, ⟨c, HC.out.1, HC.out.2.1, by have := HC.out.2.2; omega⟩, HB.out⟩
      · go_wp2
        go_ret
        exact ⟨_, rfl, ⟨c, HC.out.1, HC.out.2.1, by have := HC.out.2.2; omega⟩, HB.out⟩

set_option maxRecDepth 100000 in
set_option maxHeartbeats 4000000 in
theorem ChainMay_walk (K : ChainOk) (w : World) (vd : Value) (ld : List Dd10) (G0 : Nat → Prop) (hD : Dds10 w G0 vd ld) (hG0 : ∀ b, G0 b → b < w.heap.size) :
    Calls Try.prog 4 #[vd] w fun e w' => e = .returned (.bool true) ∧ Below w.heap.size w w' := by
  have HD := Lib.hid hD
  obtain ⟨Ad, capd, rfl, hcd⟩ := hD.form
  clear hD
  have HK := Lib.hid K.freshL
  go_enter Try.func4, Try.ntmps4
  go_wp2_with (first
    | (go_at_call 9; refine (awake10_any K w).mono ?_; rintro e w0 ⟨rfl, b0⟩; have HB0 := Lib.hid b0; clear b0)
    | (go_at_call 25; refine (HK.out w0).mono ?_; rintro e w1 ⟨v1, rfl, hs1, b1⟩))
  have HL1 := Lib.hid hs1
  have HB1 := Lib.hid (below_two HB0.out b1)
  clear hs1 b1 HB0
  go_loopw [4, 5] (fun vc v wr => ∃ (i : Nat) (c : Cn.Ch), i ≤ 60 ∧ v = .int .i64 (i : Int) ∧ Hid (Lc wr vc c ∧ Cn.J c ∧ c.length ≤ i + 1) ∧ Hid (Below w.heap.size w wr)) (fun _ v _ => 60 - (intOf v).toNat)
  case atStart => exact ⟨0, Cn.fresh, by omega, rfl, Lib.hid ⟨HL1.out, Cn.J.fresh, by decide⟩, HB1⟩
  case round =>
    clear HL1 HB1
    obtain ⟨i, c, hi, rfl, HC, HB⟩ := hrel
    by_cases hil : i < ld.length ∧ i < 60
    · obtain ⟨hil, hi1⟩ := hil
      have hil' : (i : Int) < (ld.length : Int) := by omega
      have hi1' : (i : Int) < 60 := by omega
      have hi0' : (0 : Int) ≤ (i : Int) := by omega
      obtain ⟨ad, _, ed, _, hGd, hok, x0, x1, x2⟩ := (HD.out.below HB.out hG0).nth i hil
      cases ed
      generalize ld[i] = Z at *
      obtain ⟨kd, td, sd⟩ := Z
      obtain ⟨_, _, t0, t1⟩ := hok
      dsimp only at x0 x1 x2 t0 t1
      have HO := Lib.hid (do10_any K HC.out.1 (by have := HC.out.2.2; omega) kd td sd t0 t1)
      have HN := Lib.hid (HC.out.2.1.deed kd td sd)
      have HN2 : Hid ((Cn.deed c kd td sd).length ≤ i + 1 + 1) := Lib.hid (by have := Cn.deed_len_le c kd td sd; have := HC.out.2.2; omega)
      generalize Cn.deed c kd td sd = d at *
      clear HC
      obtain ⟨f, r, rfl, hf0, hf1⟩ := HN.out.first
      have hm := (Cn.mayB_iff _).2 HN.out.may
      have HMy : Hid (∀ W v, Lc W v (f :: r) → Calls Try.prog 15 #[v] W fun e w' => e = .returned (.bool true) ∧ Below W.heap.size W w') := Lib.hid (fun W v h => by
        have := K.mayL h (by have := HN2.out; omega)
        rw [hm] at this
        exact this)
      have HF := Lib.hid (And.intro hf0 hf1)
      obtain ⟨n, hn⟩ : ∃ n, n = (f :: r).length := ⟨_, rfl⟩
      have hn0 : 0 < n := by rw [hn]; simp
      have hn0' : (0 : Int) < (n : Int) := by omega
      have HNn := Lib.hid hn
      clear hm hf0 hf1 hn
      go_wp2_with (first
        | (go_at_call 26; refine HO.out.mono ?_; rintro e w2 ⟨v2, rfl, hs2, b2⟩; have HB2 := Lib.hid (below_two HB.out b2); have HL2 := Lib.hid hs2; obtain ⟨A2, c2, rfl, _⟩ := Lc.form (c := f :: r) hs2; clear hs2 b2)
        | (go_at_call 15; refine (HMy.out _ _ HL2.out).mono ?_; rintro e w3 ⟨rfl, b3⟩; have HB3 := Lib.hid (below_two HB2.out b3); have HL3 := Lib.hid (HL2.out.below b3); obtain ⟨a3, _, e3, _, _, y0, _, _, y3⟩ := HL3.out.nth 0 (by simp); cases e3; have y0 : w3.cell? a3 = some (.int .i64 0) := (by have h := y0; simp only [Nat.zero_mul] at h; rw [show a3.add 0 = a3 by simp [Addr.add]] at h; rw [h]; exact congrArg (fun z => some (Value.int .i64 z)) HF.out.1); have y3 : w3.cell? ⟨a3.block, a3.off + 3, none⟩ = some (.bool true) := (by have h := y3; simp only [Nat.zero_mul] at h; rw [show a3.add 0 = a3 by simp [Addr.add]] at h; rw [h]; exact congrArg (fun z => some (Value.bool z)) HF.out.2); clear b3))
      go_roundw
      case rel => exact ⟨i + 1, f :: r, by omega, by go_num, Lib.hid ⟨HL3.out, HN.out, HN2.out⟩, HB3⟩
      case measure => simp [intOf]; omega
    · have hNo : ¬ ((i : Int) < (ld.length : Int)) ∨ ((i : Int) < (ld.length : Int) ∧ ¬ ((i : Int) < 60)) := by omega
      clear hil
      rcases hNo with hNo | ⟨hNo1, hNo⟩
      · go_wp2
        go_ret
        exact ⟨rfl, HB.out⟩
      · go_wp2
        go_ret
        exact ⟨rfl, HB.out⟩

end Go.Proofs.Ytgbicdaljnegfaa
