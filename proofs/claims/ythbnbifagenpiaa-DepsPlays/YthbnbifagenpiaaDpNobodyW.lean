/-
  Walks of layer deps' laws: DepsNobody.
-/
import Derived.Test.YthbnbifagenpiaaDpLaw3
namespace Go.Proofs.Ythbnbifagenpiaa.Dp
theorem all_one (a b : Int) : (all (addD [] a b)).length = if addB a b = true then 1 else 0 := by
  unfold addD
  split
  · simp [all, put]
  · rfl
theorem addB_eq (a b : Int) : addB a b = (decide (1 ≤ b) && decide (b < a)) := by
  rw [Bool.eq_iff_iff, addB_iff]; simp
end Go.Proofs.Ythbnbifagenpiaa.Dp
namespace Go.Proofs.Ythbnbifagenpiaa
open Go.RowKit

set_option maxRecDepth 100000 in
theorem one12_any (i : Bool) (w : World) : Calls Try.prog 22 #[.bool i] w fun e w' => e = .returned (.int .i64 (if i = true then 1 else 0)) ∧ w = w' := by
  cases i
  · go_enter Try.func22, Try.ntmps22
    go_wp2
    go_ret
    exact ⟨rfl, rfl⟩
  · go_enter Try.func22, Try.ntmps22
    go_wp2
    go_ret
    exact ⟨rfl, rfl⟩

section
variable {H : World → (Nat → Prop) → Value → List Dp.Wt → Prop}

set_option maxRecDepth 100000 in
set_option maxHeartbeats 4000000 in
theorem DepsNobody_walk (K : DepsOk H) (N : DepsNil) (w : World) (a b : Int) (ha : I64 a) (hb : I64 b) :
    Calls Try.prog 8 #[.int .i64 a, .int .i64 b] w fun e w' => e = .returned (.bool true) ∧ Below w.heap.size w w' := by
  have HK := Lib.hid K
  have HAw := Lib.hid (awake12_any K w)
  have HNw := Lib.hid (fun W => K.new W)
  have HNs := Lib.hid (fun W => N.settle a W)
  have HNa := Lib.hid (fun W => N.add a b W)
  have HNd := Lib.hid (fun W => N.drop a W)
  have HNt := Lib.hid (fun W => N.waits a W)
  have HNl := Lib.hid (fun W => N.all W)
  have HO := Lib.hid one12_any
  obtain ⟨i, hi⟩ : ∃ i, i = Dp.addB a b := ⟨_, rfl⟩
  have HA : Hid (∀ W v R, Aw H w W v [] R → Below w.heap.size w W → Calls Try.prog 21 #[v, .int .i64 a, .int .i64 b] W fun e w' => e = .returned (.bool i) ∧ Aw H w w' v (Dp.addD [] a b) R ∧ Below w.heap.size w w') := Lib.hid (fun W v R h hbl => by
    have := h.adds K hbl (by simp) a b ha hb
    rw [← hi] at this
    exact this)
  have HAl : Hid (∀ W v R, Aw H w W v (Dp.addD [] a b) R → Below w.heap.size w W → Calls Try.prog 14 #[v] W fun e w' => ∃ A c, e = .returned (.slice A (if i = true then 1 else 0) c) ∧ Below w.heap.size w w') := Lib.hid (fun W v R h hbl => by
    refine (h.all K hbl (by have := Dp.add_len (d := []) (o := a) (n := b); simp at this; omega)).mono (fun e w' hh => ?_)
    obtain ⟨v', e, h1, h2⟩ := hh
    obtain ⟨A, c, e2, _⟩ := h1.form (List.mem_cons_self ..)
    have e2 : v' = .slice A (Dp.all (Dp.addD [] a b)).length c := e2
    rw [Dp.all_one, ← hi] at e2
    subst e2
    exact ⟨A, c, e, h2⟩)
  rw [Dp.addB_eq] at hi
  have hcase : ∀ P : Prop, (i = true → 1 ≤ b → b < a → P) → (i = false → ¬ 1 ≤ b → P) → (i = false → 1 ≤ b → ¬ b < a → decide (b < a) = false → P) → P := fun P p1 p2 p3 => by
    by_cases h1 : 1 ≤ b
    · by_cases h2 : b < a
      · exact p1 (by rw [hi]; simp [h1, h2]) h1 h2
      · exact p3 (by rw [hi]; simp [h1, h2]) h1 h2 (decide_eq_false h2)
    · exact p2 (by rw [hi]; simp [h1]) h1
  clear hi
  refine hcase _ ?_ ?_ ?_
  all_goals (rintro rfl; intros; clear hcase)
  all_goals (
    go_enter Try.func8, Try.ntmps8
    go_wp2_with (first
      | (go_at_call 9; refine HAw.out.mono ?_; rintro e w1 ⟨rfl, b1⟩; have HB1 := Lib.hid b1; clear b1)
      | (go_at_call 20; refine (HNs.out _).mono ?_; rintro e w2 ⟨rfl, b2⟩; have HB2 := Lib.hid (HB1.out.trans (b2.mono HB1.out.size)); clear b2)
      | (go_at_call 10; refine (HNw.out _).mono ?_; rintro e w3 ⟨v3, rfl, hs3, b3⟩; have HW3 : Hid (Aw H w w3 v3 [] [] ∧ Below w.heap.size w w3) := Lib.hid ⟨⟨_, hs3, fun b q => Nat.le_trans HB2.out.size q.1, fun r hr => by cases hr⟩, HB2.out.trans (b3.mono HB2.out.size)⟩; clear hs3 b3)
      | (go_at_call 21; refine (HA.out _ _ _ HW3.out.1 HW3.out.2).mono ?_; rintro e w4 ⟨rfl, h4⟩; have HW4 := Lib.hid h4; clear h4 HA)
      | (go_at_call 21; refine (HNa.out _).mono ?_; rintro e w5 ⟨rfl, b5⟩; have HW5 := Lib.hid (And.intro (HW4.out.1.low HK.out b5) (HW4.out.2.trans (b5.mono HW4.out.2.size))); clear b5)
      | (go_at_call 18; refine (HNd.out _).mono ?_; rintro e w6 ⟨⟨A6, c6, rfl⟩, b6⟩; have HW6 := Lib.hid (And.intro (HW5.out.1.low HK.out b6) (HW5.out.2.trans (b6.mono HW5.out.2.size))); clear b6)
      | (go_at_call 15; refine (HNt.out _).mono ?_; rintro e w7 ⟨⟨A7, c7, rfl⟩, b7⟩; have HW7 := Lib.hid (And.intro (HW6.out.1.low HK.out b7) (HW6.out.2.trans (b7.mono HW6.out.2.size))); clear b7)
      | (go_at_call 14; refine (HNl.out _).mono ?_; rintro e w8 ⟨⟨A8, c8, rfl⟩, b8⟩; have HW8 := Lib.hid (And.intro (HW7.out.1.low HK.out b8) (HW7.out.2.trans (b8.mono HW7.out.2.size))); clear b8 HNl)
      | (go_at_call 14; refine (HAl.out _ _ _ HW8.out.1 HW8.out.2).mono ?_; rintro e w9 ⟨A9, c9, rfl, b9⟩; have HB9 := Lib.hid b9; clear b9)
      | (go_at_call 22; refine (HO.out _ _).mono ?_; rintro e w10 ⟨rfl, rfl⟩))
    go_ret
    exact ⟨rfl, HB9.out⟩)
end
end Go.Proofs.Ythbnbifagenpiaa
