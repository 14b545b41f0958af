/-
  Walks of layer stamp's laws: StampRaised.
-/
import Derived.Test.YtcndghkeondbpaaStAwake
namespace Go.Proofs.Ytcndghkeondbpaa
open Go.RowKit Go.Maps

set_option maxRecDepth 100000 in
set_option maxHeartbeats 2000000 in
theorem StampRaised_walk (w : World) (n to : Int) (h0 : 0 ≤ n) (h1 : n ≤ 65535) (t0 : 0 ≤ to) (t1 : to ≤ 65535) :
    Calls Try.prog 7 #[.int .u16 n, .int .u16 to] w fun e w' => e = .returned (.bool true) ∧ Below w.heap.size w w' := by
  obtain ⟨a, ha⟩ : ∃ a : Int, a = 1 + n := ⟨_, rfl⟩
  obtain ⟨M, hM⟩ : ∃ M : Int, M = max (a + 1) to := ⟨_, rfl⟩
  have hM1 : a + 1 ≤ M := by omega
  have hM2 : M ≤ 65537 := by omega
  have HMay : Hid (T.mayB a = true) := Lib.hid (decide_eq_true (by unfold T.most; omega))
  have e1 : (T.Ck.new a).told = a ∧ (T.Ck.new a).bad = 0 ∧ (T.Ck.new a).issue = ⟨a + 1, [a]⟩ := by
    unfold T.Ck.new T.Ck.told T.Ck.bad T.Ck.issue T.most
    refine ⟨if_neg ?_, if_neg ?_, if_neg ?_⟩ <;> (show ¬ _ < a; omega)
  have e2 : (⟨a + 1, [a]⟩ : T.Ck).raise to = ⟨M, [a]⟩ := by
    unfold T.Ck.raise T.most
    by_cases h : a + 1 < to
    · rw [if_pos ⟨h, by omega⟩, hM, show max (a + 1) to = to by omega]
    · rw [if_neg (fun g => h g.1), hM, show max (a + 1) to = a + 1 by omega]
  have e3 : (⟨M, [a]⟩ : T.Ck).told = M ∧ (⟨M, [a]⟩ : T.Ck).bad = 0 ∧ (⟨M, [a]⟩ : T.Ck).issue = ⟨M + 1, [a, M]⟩ := by
    unfold T.Ck.told T.Ck.bad T.Ck.issue T.most
    refine ⟨if_neg ?_, if_neg ?_, if_neg ?_⟩ <;> (show ¬ _ < M; omega)
  have e4 : (⟨M + 1, [a, M]⟩ : T.Ck).is a = true ∧ (⟨M + 1, [a, M]⟩ : T.Ck).done a = ⟨M + 1, [M]⟩ := by
    refine ⟨decide_eq_true (by simp), ?_⟩
    unfold T.Ck.done
    have : (M != a) = true := by simp; omega
    simp [this]
  have E1 := Lib.hid e1
  have E2 := Lib.hid e2
  have E3 := Lib.hid e3
  have E4 := Lib.hid e4
  clear e1 e2 e3 e4
  have HN : Hid (∀ W, Calls Try.prog 10 #[.int .i64 (1 + n)] W fun e w' => ∃ g b, e = .returned (.pointer (some ⟨g, 0, none⟩)) ∧ W.heap.size ≤ g ∧ W.heap.size ≤ b ∧ Hc w' g b 0 (T.Ck.new a) ∧ Below W.heap.size W w') := Lib.hid (fun W => ha ▸ new_ex a HMay.out W)
  have hMa : (M == max (a + 1) to) = true := by simp [hM]
  have ha1 : 1 ≤ a := by omega
  have ha2 : a ≤ 65536 := by omega
  clear ha hM HMay
  go_enter Try.func7, Try.ntmps7
  go_wp2_with (first
    | (go_at_call 9; refine (awake9_any w).mono ?_; rintro e w1 ⟨rfl, b1⟩))
  have B1 := Lib.hid b1
  clear b1
  go_wp2_with (first
    | (go_at_call 10; refine (HN.out w1).mono ?_; rintro e w2 ⟨g, b, rfl, hg, hb, k2, b2⟩))
  have G : Hid (w.heap.size ≤ g) := Lib.hid (Nat.le_trans B1.out.size hg)
  have B : Hid (w.heap.size ≤ b) := Lib.hid (Nat.le_trans B1.out.size hb)
  have B2 : Hid (Below w.heap.size w w2) := Lib.hid (B1.out.trans (b2.mono B1.out.size))
  have I1 := Lib.hid (issue_of k2 (by omega) E1.out.1 E1.out.2.1 E1.out.2.2)
  clear b2 hg hb B1 k2 HN E1
  go_wp2_with (first
    | (go_at_call 12; refine I1.out.mono ?_; rintro e w3 ⟨rfl, k3, b3⟩))
  have B3 : Hid (Below w.heap.size w w3) := Lib.hid (B2.out.trans (b3.below G.out B.out B2.out.size))
  have I2 := Lib.hid (raise_of k3 to (by omega) (by omega) E2.out)
  clear b3 k3 I1 B2 E2
  go_wp2_with (first
    | (go_at_call 16; refine I2.out.mono ?_; rintro e w4 ⟨rfl, k4, b4⟩))
  have B4 : Hid (Below w.heap.size w w4) := Lib.hid (B3.out.trans (b4.below G.out B.out B3.out.size))
  have I3 := Lib.hid (issue_of k4 (by omega) E3.out.1 E3.out.2.1 E3.out.2.2)
  clear b4 k4 I2 B3 E3
  go_wp2_with (first
    | (go_at_call 12; refine I3.out.mono ?_; rintro e w5 ⟨rfl, k5, b5⟩))
  have B5 : Hid (Below w.heap.size w w5) := Lib.hid (B4.out.trans (b5.below G.out B.out B4.out.size))
  have I4 := Lib.hid (min_of k5 (x := a) rfl)
  clear b5 k5 I3 B4
  go_wp2_with (first
    | (go_at_call 19; refine I4.out.mono ?_; rintro e w6 ⟨rfl, k6, b6⟩))
  have B6 : Hid (Below w.heap.size w w6) := Lib.hid (B5.out.trans (b6.mono B5.out.size))
  have I5 := Lib.hid (done_of k6 a (by omega) (by omega) E4.out.1 E4.out.2)
  clear b6 k6 I4 B5 E4
  go_wp2_with (first
    | (go_at_call 14; refine I5.out.mono ?_; rintro e w7 ⟨rfl, k7, b7⟩))
  have B7 : Hid (Below w.heap.size w w7) := Lib.hid (B6.out.trans (b7.below G.out B.out B6.out.size))
  have I6 := Lib.hid (min_of k7 (x := M) rfl)
  clear b7 k7 I5 B6
  go_wp2_with (first
    | (go_at_call 19; refine I6.out.mono ?_; rintro e w8 ⟨rfl, _, b8⟩))
  go_ret
  exact ⟨rfl, B7.out.trans (b8.mono B7.out.size)⟩

end Go.Proofs.Ytcndghkeondbpaa
