/-
  Walks of layer stamp's laws: StampOver.
-/
import Derived.Test.YtcndghkeondbpaaStAwake
namespace Go.Proofs.Ytcndghkeondbpaa
open Go.RowKit Go.Maps

/-- one more issued, as long as there is one -/
theorem issue_yes {c : T.Ck} (h : c.next ≤ T.most) : c.told = c.next ∧ c.bad = 0 ∧ c.issue.next = c.next + 1 ∧ c.issue.act = c.act ++ [c.next] := by
  unfold T.Ck.told T.Ck.bad T.Ck.issue
  rw [if_neg (by omega), if_neg (by omega), if_neg (by omega)]
  exact ⟨rfl, rfl, rfl, rfl⟩
theorem issue_no {c : T.Ck} (h : T.most < c.next) : c.told = 0 ∧ c.bad = 10 ∧ c.issue = c := by
  unfold T.Ck.told T.Ck.bad T.Ck.issue
  rw [if_pos (by omega), if_pos (by omega), if_pos (by omega)]
  exact ⟨rfl, rfl, rfl⟩

set_option maxRecDepth 100000 in
set_option maxHeartbeats 2000000 in
theorem StampOver_walk (w : World) (less : Nat) (h1 : less ≤ 255) :
    Calls Try.prog 6 #[.int .u8 (less : Int)] w fun e w' => e = .returned (.bool true) ∧ Below w.heap.size w w' := by
  obtain ⟨k, hk⟩ : ∃ k : Nat, k = less % 5 := ⟨_, rfl⟩
  have hk4 : k ≤ 4 := by omega
  have hka : (less : Int) % 5 = (k : Int) := by omega
  have hkb : (less : Int).tmod 5 = (k : Int) := by rw [Int.tmod_eq_emod_of_nonneg (by omega)]; exact hka
  clear hk
  have HN : Hid (∀ W, Calls Try.prog 10 #[.int .i64 (1099511627776 - (k : Int))] W fun e w' => ∃ g b, e = .returned (.pointer (some ⟨g, 0, none⟩)) ∧ W.heap.size ≤ g ∧ W.heap.size ≤ b ∧ Hc w' g b 0 (T.Ck.new (1099511627776 - (k : Int))) ∧ Below W.heap.size W w') := Lib.hid (fun W => new_ex _ (decide_eq_true (by unfold T.most; omega)) W)
  go_enter Try.func6, Try.ntmps6
  go_wp2_with (first
    | (go_at_call 9; refine (awake9_any w).mono ?_; rintro e w1 ⟨rfl, b1⟩))
  have B1 := Lib.hid b1
  clear b1
  go_wp2_with (first
    | (go_at_call 10; refine (HN.out w1).mono ?_; rintro e w2 ⟨g, b, rfl, hg, hb, k2, b2⟩))
  have G : Hid (w.heap.size ≤ g) := Lib.hid (Nat.le_trans B1.out.size hg)
  have B : Hid (w.heap.size ≤ b) := Lib.hid (Nat.le_trans B1.out.size hb)
  have B2 : Hid (Below w.heap.size w w2) := Lib.hid (B1.out.trans (b2.mono B1.out.size))
  have K2 := Lib.hid k2
  clear b2 hg hb B1 k2 HN
  go_wp2
  go_loopw [6] (fun v wr => ∃ i : Nat, i ≤ k + 1 ∧ v = .int .i64 (i : Int) ∧ Hid (Below w.heap.size w wr) ∧ Hid (∃ c : T.Ck, Hc wr g b i c ∧ c.next = 1099511627776 - (k : Int) + (i : Int) ∧ c.act.length = i)) (fun v _ => 5 - (intOf v).toNat)
  case atStart => exact ⟨0, by omega, rfl, B2, Lib.hid ⟨_, K2.out, by simp [T.Ck.new], rfl⟩⟩
  case round =>
    obtain ⟨i, hi, rfl, HB, HC⟩ := hrel
    obtain ⟨c, hc, hn, hl⟩ := HC.out
    by_cases hik : i ≤ k
    · have hik' : (i : Int) ≤ (k : Int) := by omega
      obtain ⟨e1, e2, e3, e4⟩ := issue_yes (c := c) (by unfold T.most; omega)
      have I1 := Lib.hid (issue_of hc (by omega) (e1.trans hn) e2 rfl)
      have E := Lib.hid (show c.issue.next = 1099511627776 - (k : Int) + ((i + 1 : Nat) : Int) ∧ c.issue.act.length = i + 1 by rw [e3, e4]; simp; omega)
      clear hc hn hl e1 e2 e3 e4 HC
      generalize c.issue = d at *
      go_wp2_with (first
        | (go_at_call 12; refine I1.out.mono ?_; rintro e w3 ⟨rfl, k3, b3⟩))
      have HB3 : Hid (Below w.heap.size w w3) := Lib.hid (HB.out.trans (b3.below G.out B.out HB.out.size))
      have HC3 : Hid (∃ c : T.Ck, Hc w3 g b (i + 1) c ∧ c.next = 1099511627776 - (k : Int) + ((i + 1 : Nat) : Int) ∧ c.act.length = i + 1) := Lib.hid ⟨d, k3, E.out⟩
      clear b3 k3 I1 E
      go_wp2
      go_roundw
      case rel => exact ⟨i + 1, by omega, by go_num, HB3, HC3⟩
      case measure => simp [intOf]; omega
    · have hik' : ¬ (i : Int) ≤ (k : Int) := by omega
      obtain rfl : i = k + 1 := by omega
      obtain ⟨e1, e2, e3⟩ := issue_no (c := c) (by unfold T.most; omega)
      have I1 := Lib.hid (issue_of hc (by omega) e1 e2 e3)
      have E := Lib.hid (show c.next = 1099511627777 ∧ c.act.length = k + 1 by omega)
      clear hc hn hl e1 e2 e3 HC
      go_wp2_with (first
        | (go_at_call 12; refine I1.out.mono ?_; rintro e w3 ⟨rfl, k3, b3⟩))
      have HB3 : Hid (Below w.heap.size w w3) := Lib.hid (HB.out.trans (b3.below G.out B.out HB.out.size))
      have I2 := Lib.hid (next_of k3 E.out.1)
      have I3 := Lib.hid (active_len k3 (by omega) E.out.2)
      clear b3 k3 I1 E
      go_wp2_with (first
        | (go_at_call 18; refine I2.out.mono ?_; rintro e w4 ⟨rfl, rfl⟩)
        | (go_at_call 22; refine I3.out.mono ?_; rintro e w5 ⟨A, cap, rfl, _, b5⟩))
      go_ret
      exact ⟨rfl, HB3.out.trans (b5.mono HB3.out.size)⟩

end Go.Proofs.Ytcndghkeondbpaa
