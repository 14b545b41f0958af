/-
  Walks of layer stamp's laws: the document's example; New without its blocks' numbers.
-/
import Derived.Test.YtcndghkeondbpaaStClk2
namespace Go.Proofs.Ytcndghkeondbpaa
open Go.RowKit Go.Maps

theorem new_ex (n : Int) (h : T.mayB n = true) (w : World) : Calls Try.prog 10 #[.int .i64 n] w fun e w' => ∃ g b, e = .returned (.pointer (some ⟨g, 0, none⟩)) ∧ w.heap.size ≤ g ∧ w.heap.size ≤ b ∧ Hc w' g b 0 (T.Ck.new n) ∧ Below w.heap.size w w' := by
  refine (new_any n h w).mono ?_
  rintro e w' ⟨rfl, hH, hb⟩
  exact ⟨_, _, rfl, by omega, Nat.le_refl _, hH, hb⟩

theorem issue_of {w : World} {g b m : Nat} {c : T.Ck} (h : Hc w g b m c) (hm : m ≤ 1000) {t e : Int} {d : T.Ck} (ht : c.told = t) (he : c.bad = e) (hd : c.issue = d) : Calls Try.prog 12 #[.pointer (some ⟨g, 0, none⟩)] w fun r w' => r = .returned (.tuple #[.int .i64 t, .int .i64 e]) ∧ Hc w' g b (m + 1) d ∧ Bt g b w w' := by
  subst ht he hd
  exact issue_any h hm
theorem done_of {w : World} {g b m : Nat} {c : T.Ck} (h : Hc w g b m c) (x : Int) (h0 : -9223372036854775808 ≤ x) (h1 : x ≤ 9223372036854775807) {i : Bool} {d : T.Ck} (hi : c.is x = i) (hd : c.done x = d) : Calls Try.prog 14 #[.pointer (some ⟨g, 0, none⟩), .int .i64 x] w fun e w' => e = .returned (.bool i) ∧ Hc w' g b m d ∧ Bt g b w w' := by
  subst hi hd
  exact done_any h x h0 h1
theorem raise_of {w : World} {g b m : Nat} {c : T.Ck} (h : Hc w g b m c) (to : Int) (h0 : -9223372036854775808 ≤ to) (h1 : to ≤ 9223372036854775807) {d : T.Ck} (hd : c.raise to = d) : Calls Try.prog 16 #[.pointer (some ⟨g, 0, none⟩), .int .i64 to] w fun e w' => e = .returned (.tuple #[]) ∧ Hc w' g b m d ∧ Bt g b w w' := by
  subst hd
  exact raise_any h to h0 h1
theorem min_of {w : World} {g b m : Nat} {c : T.Ck} (h : Hc w g b m c) {x : Int} (hx : c.min = x) : Calls Try.prog 19 #[.pointer (some ⟨g, 0, none⟩)] w fun e w' => e = .returned (.int .i64 x) ∧ Hc w' g b m c ∧ Below w.heap.size w w' := by
  subst hx
  refine (min_any h).mono ?_
  rintro e w' ⟨rfl, hb⟩
  exact ⟨rfl, h.step hb, hb⟩
theorem next_of {w : World} {g b m : Nat} {c : T.Ck} (h : Hc w g b m c) {x : Int} (hx : c.next = x) : Calls Try.prog 18 #[.pointer (some ⟨g, 0, none⟩)] w fun e w' => e = .returned (.int .i64 x) ∧ w = w' := by
  subst hx
  exact next_any h
/-- how many Active tells -/
theorem active_len {w : World} {g b m : Nat} {c : T.Ck} (h : Hc w g b m c) (hm : m ≤ 1000) {n : Nat} (hn : c.act.length = n) : Calls Try.prog 22 #[.pointer (some ⟨g, 0, none⟩)] w fun e w' => ∃ A cap, e = .returned (.slice A n cap) ∧ Hc w' g b m c ∧ Below w.heap.size w w' := by
  subst hn
  refine (active_any h hm).mono ?_
  rintro e w' ⟨v, rfl, hs, hb⟩
  obtain ⟨A, cap, rfl, _⟩ := num_form hs
  exact ⟨A, cap, rfl, h.step hb, hb⟩

set_option maxRecDepth 100000 in
set_option maxHeartbeats 1000000 in
theorem awake9_any (w : World) : Calls Try.prog 9 #[] w fun e w' => e = .returned (.bool true) ∧ Below w.heap.size w w' := by
  go_enter Try.func9, Try.ntmps9
  go_wp2_with (first
    | (go_at_call 10; refine (new_ex 5 (by decide) w).mono ?_; rintro e w1 ⟨g, b, rfl, hg, hb, h1, b1⟩))
  have I1 := Lib.hid (issue_of h1 (by omega) (t := 5) (e := 0) (d := ⟨6, [5]⟩) (by decide) (by decide) rfl)
  have B1 := Lib.hid b1
  have G := Lib.hid hg
  have B := Lib.hid hb
  clear h1 b1 hg hb
  go_wp2_with (first
    | (go_at_call 12; refine I1.out.mono ?_; rintro e w2 ⟨rfl, h2, b2⟩))
  have I2 := Lib.hid (issue_of h2 (by omega) (t := 6) (e := 0) (d := ⟨7, [5, 6]⟩) (by decide) (by decide) rfl)
  have B2 : Hid (Below w.heap.size w w2) := Lib.hid (B1.out.trans (b2.below G.out B.out B1.out.size))
  clear h2 b2 I1 B1
  go_wp2_with (first
    | (go_at_call 12; refine I2.out.mono ?_; rintro e w3 ⟨rfl, h3, b3⟩))
  have I3 := Lib.hid (done_of h3 5 (by decide) (by decide) (i := true) (d := ⟨7, [6]⟩) (by decide) rfl)
  have B3 : Hid (Below w.heap.size w w3) := Lib.hid (B2.out.trans (b3.below G.out B.out B2.out.size))
  clear h3 b3 I2 B2
  go_wp2_with (first
    | (go_at_call 14; refine I3.out.mono ?_; rintro e w4 ⟨rfl, h4, b4⟩))
  have I4 := Lib.hid (min_of h4 (x := 6) rfl)
  have B4 : Hid (Below w.heap.size w w4) := Lib.hid (B3.out.trans (b4.below G.out B.out B3.out.size))
  clear h4 b4 I3 B3
  go_wp2_with (first
    | (go_at_call 19; refine I4.out.mono ?_; rintro e w5 ⟨rfl, h5, b5⟩))
  have I5 := Lib.hid (active_len h5 (by omega) (n := 1) rfl)
  have B5 : Hid (Below w.heap.size w w5) := Lib.hid (B4.out.trans (b5.mono B4.out.size))
  clear h5 b5 I4 B4
  go_wp2_with (first
    | (go_at_call 22; refine I5.out.mono ?_; rintro e w6 ⟨A, cap, rfl, h6, b6⟩))
  have I6 := Lib.hid (next_of h6 (x := 7) rfl)
  have B6 : Hid (Below w.heap.size w w6) := Lib.hid (B5.out.trans (b6.mono B5.out.size))
  clear h6 b6 I5 B5
  go_wp2_with (first
    | (go_at_call 18; refine I6.out.mono ?_; rintro e w7 ⟨rfl, rfl⟩))
  go_ret
  exact ⟨rfl, B6.out⟩

end Go.Proofs.Ytcndghkeondbpaa
