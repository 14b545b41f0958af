/-
  The law ValueThree, walked: Compare is an order, of three values, and 0 just of the same.
-/
import Derived.Test.YtepgefjehnjibaaValW9
namespace Go.Proofs.Ytepgefjehnjibaa
open Go.RowKit

theorem below_box3 {w : World} {o o' o'' : Obj} : Below w.heap.size w (((w.alloc o).alloc o').alloc o'') := (below_box2).alloc (by simp; omega) _

theorem cell_box3 (w : World) (A B C : Array Value) (t : TypeId) (j : Nat) :
    (((w.alloc (.cells A t)).alloc (.cells B t)).alloc (.cells C t)).cell? ⟨w.heap.size, j, none⟩ = A[j]? ∧
    (((w.alloc (.cells A t)).alloc (.cells B t)).alloc (.cells C t)).cell? ⟨w.heap.size + 1, j, none⟩ = B[j]? ∧
    (((w.alloc (.cells A t)).alloc (.cells B t)).alloc (.cells C t)).cell? ⟨w.heap.size + 1 + 1, j, none⟩ = C[j]? := by
  refine ⟨?_, ?_, ?_⟩
  · rw [World.cell?_alloc_lt _ _ _ (by simp; omega), World.cell?_alloc_lt _ _ _ (by simp)]
    exact Joins.cell_alloc_mark_at _ _ _ (0, 0) _ j rfl
  · rw [World.cell?_alloc_lt _ _ _ (by simp)]
    exact Joins.cell_alloc_mark_at _ _ _ (0, 0) _ j (by simp)
  · exact Joins.cell_alloc_mark_at _ _ _ (0, 0) _ j (by simp)

theorem Kv.three (w : World) (t n : Int) (s : ByteArray) (t' n' : Int) (s' : ByteArray) (u m : Int) (r : ByteArray) :
    let W := ((w.alloc (.cells #[.int .i64 t, .int .i64 n, .string s] 23)).alloc (.cells #[.int .i64 t', .int .i64 n', .string s'] 23)).alloc (.cells #[.int .i64 u, .int .i64 m, .string r] 23)
    Kv w w.heap.size t n s W ∧ Kv w (w.heap.size + 1) t' n' s' W ∧ Kv w (w.heap.size + 1 + 1) u m r W := by
  intro W
  have h := fun j => cell_box3 w #[.int .i64 t, .int .i64 n, .string s] #[.int .i64 t', .int .i64 n', .string s'] #[.int .i64 u, .int .i64 m, .string r] 23 j
  exact ⟨⟨below_box3, by simp [W]; omega, (h 0).1, (h 1).1, (h 2).1⟩, ⟨below_box3, by simp [W], (h 0).2.1, (h 1).2.1, (h 2).2.1⟩, ⟨below_box3, by simp [W], (h 0).2.2, (h 1).2.2, (h 2).2.2⟩⟩

set_option maxRecDepth 100000 in
set_option maxHeartbeats 4000000 in
/-- the walk, with the four comparisons' answers at hand -/
theorem valueThree_core (t n : Int) (s : ByteArray) (t' n' : Int) (s' : ByteArray) (u m : Int) (r : ByteArray) (w : World) (x y z x' : Int)
    (H1 : ∀ w, Calls Try.prog 14 #[.agg #[.int .i64 t, .int .i64 n, .string s], .agg #[.int .i64 t', .int .i64 n', .string s']] w fun e w' => e = .returned (.int .i64 x) ∧ Below w.heap.size w w')
    (H2 : ∀ w, Calls Try.prog 14 #[.agg #[.int .i64 t', .int .i64 n', .string s'], .agg #[.int .i64 u, .int .i64 m, .string r]] w fun e w' => e = .returned (.int .i64 y) ∧ Below w.heap.size w w')
    (H3 : ∀ w, Calls Try.prog 14 #[.agg #[.int .i64 t, .int .i64 n, .string s], .agg #[.int .i64 u, .int .i64 m, .string r]] w fun e w' => e = .returned (.int .i64 z) ∧ Below w.heap.size w w')
    (H4 : ∀ w, Calls Try.prog 14 #[.agg #[.int .i64 t', .int .i64 n', .string s'], .agg #[.int .i64 t, .int .i64 n, .string s]] w fun e w' => e = .returned (.int .i64 x') ∧ Below w.heap.size w w')
    (hx : (x = -1 ∧ x' = 1) ∨ (x = 0 ∧ x' = 0) ∨ (x = 1 ∧ x' = -1)) (hs : same t n s t' n' s' = decide (x = 0)) (ho : x = 1 ∨ y = 1 ∨ (decide (0 < y) = false ∧ decide (z ≤ 0) = true)) :
    Calls Try.prog 7 #[.agg #[.int .i64 t, .int .i64 n, .string s], .agg #[.int .i64 t', .int .i64 n', .string s'], .agg #[.int .i64 u, .int .i64 m, .string r]] w fun e w' => e = .returned (.bool true) ∧ Below w.heap.size w w' := by
  have Q := eql_val
  have H1 := Lib.hid H1
  have H2 := Lib.hid H2
  have H3 := Lib.hid H3
  have H4 := Lib.hid H4
  have HO := Lib.hid ho
  clear ho
  obtain ⟨A0, B0, C0⟩ := Kv.three w t n s t' n' s' u m r
  rcases hx with ⟨rfl, rfl⟩ | ⟨rfl, rfl⟩ | ⟨rfl, rfl⟩
  · have hs : same t n s t' n' s' = false := hs
    rcases HO.out with h | rfl | ⟨g1, g2⟩
    · exact absurd h (by decide)
    · go_enter Try.func7, Try.ntmps7
      go_wp2_with fail
      refine (awake_any _).mono ?_
      rintro e w1 ⟨rfl, hb⟩
      have A1 := A0.step hb
      have B1 := B0.step hb
      have C1 := C0.step hb
      clear A0 B0 C0 hb
      generalize w.heap.size + 1 + 1 = pc at C1
      generalize w.heap.size + 1 = pb at B1
      generalize w.heap.size = pa at A1
      obtain ⟨_, _, a0, a1, a2⟩ := id A1
      obtain ⟨_, _, b0, b1, b2⟩ := id B1
      obtain ⟨_, _, c0, c1, c2⟩ := id C1
      go_wp2_with fail
      refine (H1.out _).mono ?_
      rintro e w2 ⟨rfl, hb⟩
      have A2 := A1.step hb
      have B2 := B1.step hb
      have C2 := C1.step hb
      clear A1 B1 C1 hb a0 a1 a2 b0 b1 b2 c0 c1 c2
      obtain ⟨_, _, a0, a1, a2⟩ := id A2
      obtain ⟨_, _, b0, b1, b2⟩ := id B2
      obtain ⟨_, _, c0, c1, c2⟩ := id C2
      go_wp2_with fail
      refine (H2.out _).mono ?_
      rintro e w3 ⟨rfl, hb⟩
      have A3 := A2.step hb
      have B3 := B2.step hb
      have C3 := C2.step hb
      clear A2 B2 C2 hb a0 a1 a2 b0 b1 b2 c0 c1 c2
      obtain ⟨_, _, a0, a1, a2⟩ := id A3
      obtain ⟨_, _, b0, b1, b2⟩ := id B3
      obtain ⟨_, _, c0, c1, c2⟩ := id C3
      go_wp2_with fail
      refine (H3.out _).mono ?_
      rintro e w4 ⟨rfl, hb⟩
      have A4 := A3.step hb
      have B4 := B3.step hb
      clear A3 B3 C3 hb a0 a1 a2 b0 b1 b2 c0 c1 c2
      obtain ⟨_, _, a0, a1, a2⟩ := id A4
      obtain ⟨_, _, b0, b1, b2⟩ := id B4
      go_wp2_with fail
      refine (H4.out _).mono ?_
      rintro e w5 ⟨rfl, hb⟩
      have A5 := A4.step hb
      have B5 := B4.step hb
      clear A4 B4 hb a0 a1 a2 b0 b1 b2
      obtain ⟨_, _, a0, a1, a2⟩ := id A5
      obtain ⟨_, _, b0, b1, b2⟩ := id B5
      go_wp2_with fail
      go_ret
      exact ⟨rfl, A5.bel⟩
    · go_enter Try.func7, Try.ntmps7
      go_wp2_with fail
      refine (awake_any _).mono ?_
      rintro e w1 ⟨rfl, hb⟩
      have A1 := A0.step hb
      have B1 := B0.step hb
      have C1 := C0.step hb
      clear A0 B0 C0 hb
      generalize w.heap.size + 1 + 1 = pc at C1
      generalize w.heap.size + 1 = pb at B1
      generalize w.heap.size = pa at A1
      obtain ⟨_, _, a0, a1, a2⟩ := id A1
      obtain ⟨_, _, b0, b1, b2⟩ := id B1
      obtain ⟨_, _, c0, c1, c2⟩ := id C1
      go_wp2_with fail
      refine (H1.out _).mono ?_
      rintro e w2 ⟨rfl, hb⟩
      have A2 := A1.step hb
      have B2 := B1.step hb
      have C2 := C1.step hb
      clear A1 B1 C1 hb a0 a1 a2 b0 b1 b2 c0 c1 c2
      obtain ⟨_, _, a0, a1, a2⟩ := id A2
      obtain ⟨_, _, b0, b1, b2⟩ := id B2
      obtain ⟨_, _, c0, c1, c2⟩ := id C2
      go_wp2_with fail
      refine (H2.out _).mono ?_
      rintro e w3 ⟨rfl, hb⟩
      have A3 := A2.step hb
      have B3 := B2.step hb
      have C3 := C2.step hb
      clear A2 B2 C2 hb a0 a1 a2 b0 b1 b2 c0 c1 c2
      obtain ⟨_, _, a0, a1, a2⟩ := id A3
      obtain ⟨_, _, b0, b1, b2⟩ := id B3
      obtain ⟨_, _, c0, c1, c2⟩ := id C3
      go_wp2_with fail
      refine (H3.out _).mono ?_
      rintro e w4 ⟨rfl, hb⟩
      have A4 := A3.step hb
      have B4 := B3.step hb
      clear A3 B3 C3 hb a0 a1 a2 b0 b1 b2 c0 c1 c2
      obtain ⟨_, _, a0, a1, a2⟩ := id A4
      obtain ⟨_, _, b0, b1, b2⟩ := id B4
      go_wp2_with fail
      refine (H4.out _).mono ?_
      rintro e w5 ⟨rfl, hb⟩
      have A5 := A4.step hb
      have B5 := B4.step hb
      clear A4 B4 hb a0 a1 a2 b0 b1 b2
      obtain ⟨_, _, a0, a1, a2⟩ := id A5
      obtain ⟨_, _, b0, b1, b2⟩ := id B5
      go_wp2_with fail
      go_ret
      exact ⟨rfl, A5.bel⟩
  · have hs : same t n s t' n' s' = true := hs
    rcases HO.out with h | rfl | ⟨g1, g2⟩
    · exact absurd h (by decide)
    · go_enter Try.func7, Try.ntmps7
      go_wp2_with fail
      refine (awake_any _).mono ?_
      rintro e w1 ⟨rfl, hb⟩
      have A1 := A0.step hb
      have B1 := B0.step hb
      have C1 := C0.step hb
      clear A0 B0 C0 hb
      generalize w.heap.size + 1 + 1 = pc at C1
      generalize w.heap.size + 1 = pb at B1
      generalize w.heap.size = pa at A1
      obtain ⟨_, _, a0, a1, a2⟩ := id A1
      obtain ⟨_, _, b0, b1, b2⟩ := id B1
      obtain ⟨_, _, c0, c1, c2⟩ := id C1
      go_wp2_with fail
      refine (H1.out _).mono ?_
      rintro e w2 ⟨rfl, hb⟩
      have A2 := A1.step hb
      have B2 := B1.step hb
      have C2 := C1.step hb
      clear A1 B1 C1 hb a0 a1 a2 b0 b1 b2 c0 c1 c2
      obtain ⟨_, _, a0, a1, a2⟩ := id A2
      obtain ⟨_, _, b0, b1, b2⟩ := id B2
      obtain ⟨_, _, c0, c1, c2⟩ := id C2
      go_wp2_with fail
      refine (H2.out _).mono ?_
      rintro e w3 ⟨rfl, hb⟩
      have A3 := A2.step hb
      have B3 := B2.step hb
      have C3 := C2.step hb
      clear A2 B2 C2 hb a0 a1 a2 b0 b1 b2 c0 c1 c2
      obtain ⟨_, _, a0, a1, a2⟩ := id A3
      obtain ⟨_, _, b0, b1, b2⟩ := id B3
      obtain ⟨_, _, c0, c1, c2⟩ := id C3
      go_wp2_with fail
      refine (H3.out _).mono ?_
      rintro e w4 ⟨rfl, hb⟩
      have A4 := A3.step hb
      have B4 := B3.step hb
      clear A3 B3 C3 hb a0 a1 a2 b0 b1 b2 c0 c1 c2
      obtain ⟨_, _, a0, a1, a2⟩ := id A4
      obtain ⟨_, _, b0, b1, b2⟩ := id B4
      go_wp2_with fail
      refine (H4.out _).mono ?_
      rintro e w5 ⟨rfl, hb⟩
      have A5 := A4.step hb
      have B5 := B4.step hb
      clear A4 B4 hb a0 a1 a2 b0 b1 b2
      obtain ⟨_, _, a0, a1, a2⟩ := id A5
      obtain ⟨_, _, b0, b1, b2⟩ := id B5
      go_wp2_with fail
      go_ret
      exact ⟨rfl, A5.bel⟩
    · go_enter Try.func7, Try.ntmps7
      go_wp2_with fail
      refine (awake_any _).mono ?_
      rintro e w1 ⟨rfl, hb⟩
      have A1 := A0.step hb
      have B1 := B0.step hb
      have C1 := C0.step hb
      clear A0 B0 C0 hb
      generalize w.heap.size + 1 + 1 = pc at C1
      generalize w.heap.size + 1 = pb at B1
      generalize w.heap.size = pa at A1
      obtain ⟨_, _, a0, a1, a2⟩ := id A1
      obtain ⟨_, _, b0, b1, b2⟩ := id B1
      obtain ⟨_, _, c0, c1, c2⟩ := id C1
      go_wp2_with fail
      refine (H1.out _).mono ?_
      rintro e w2 ⟨rfl, hb⟩
      have A2 := A1.step hb
      have B2 := B1.step hb
      have C2 := C1.step hb
      clear A1 B1 C1 hb a0 a1 a2 b0 b1 b2 c0 c1 c2
      obtain ⟨_, _, a0, a1, a2⟩ := id A2
      obtain ⟨_, _, b0, b1, b2⟩ := id B2
      obtain ⟨_, _, c0, c1, c2⟩ := id C2
      go_wp2_with fail
      refine (H2.out _).mono ?_
      rintro e w3 ⟨rfl, hb⟩
      have A3 := A2.step hb
      have B3 := B2.step hb
      have C3 := C2.step hb
      clear A2 B2 C2 hb a0 a1 a2 b0 b1 b2 c0 c1 c2
      obtain ⟨_, _, a0, a1, a2⟩ := id A3
      obtain ⟨_, _, b0, b1, b2⟩ := id B3
      obtain ⟨_, _, c0, c1, c2⟩ := id C3
      go_wp2_with fail
      refine (H3.out _).mono ?_
      rintro e w4 ⟨rfl, hb⟩
      have A4 := A3.step hb
      have B4 := B3.step hb
      clear A3 B3 C3 hb a0 a1 a2 b0 b1 b2 c0 c1 c2
      obtain ⟨_, _, a0, a1, a2⟩ := id A4
      obtain ⟨_, _, b0, b1, b2⟩ := id B4
      go_wp2_with fail
      refine (H4.out _).mono ?_
      rintro e w5 ⟨rfl, hb⟩
      have A5 := A4.step hb
      have B5 := B4.step hb
      clear A4 B4 hb a0 a1 a2 b0 b1 b2
      obtain ⟨_, _, a0, a1, a2⟩ := id A5
      obtain ⟨_, _, b0, b1, b2⟩ := id B5
      go_wp2_with fail
      go_ret
      exact ⟨rfl, A5.bel⟩
  · have hs : same t n s t' n' s' = false := hs
    go_enter Try.func7, Try.ntmps7
    go_wp2_with fail
    refine (awake_any _).mono ?_
    rintro e w1 ⟨rfl, hb⟩
    have A1 := A0.step hb
    have B1 := B0.step hb
    have C1 := C0.step hb
    clear A0 B0 C0 hb
    generalize w.heap.size + 1 + 1 = pc at C1
    generalize w.heap.size + 1 = pb at B1
    generalize w.heap.size = pa at A1
    obtain ⟨_, _, a0, a1, a2⟩ := id A1
    obtain ⟨_, _, b0, b1, b2⟩ := id B1
    obtain ⟨_, _, c0, c1, c2⟩ := id C1
    go_wp2_with fail
    refine (H1.out _).mono ?_
    rintro e w2 ⟨rfl, hb⟩
    have A2 := A1.step hb
    have B2 := B1.step hb
    have C2 := C1.step hb
    clear A1 B1 C1 hb a0 a1 a2 b0 b1 b2 c0 c1 c2
    obtain ⟨_, _, a0, a1, a2⟩ := id A2
    obtain ⟨_, _, b0, b1, b2⟩ := id B2
    obtain ⟨_, _, c0, c1, c2⟩ := id C2
    go_wp2_with fail
    refine (H2.out _).mono ?_
    rintro e w3 ⟨rfl, hb⟩
    have A3 := A2.step hb
    have B3 := B2.step hb
    have C3 := C2.step hb
    clear A2 B2 C2 hb a0 a1 a2 b0 b1 b2 c0 c1 c2
    obtain ⟨_, _, a0, a1, a2⟩ := id A3
    obtain ⟨_, _, b0, b1, b2⟩ := id B3
    obtain ⟨_, _, c0, c1, c2⟩ := id C3
    go_wp2_with fail
    refine (H3.out _).mono ?_
    rintro e w4 ⟨rfl, hb⟩
    have A4 := A3.step hb
    have B4 := B3.step hb
    clear A3 B3 C3 hb a0 a1 a2 b0 b1 b2 c0 c1 c2
    obtain ⟨_, _, a0, a1, a2⟩ := id A4
    obtain ⟨_, _, b0, b1, b2⟩ := id B4
    go_wp2_with fail
    refine (H4.out _).mono ?_
    rintro e w5 ⟨rfl, hb⟩
    have A5 := A4.step hb
    have B5 := B4.step hb
    clear A4 B4 hb a0 a1 a2 b0 b1 b2
    obtain ⟨_, _, a0, a1, a2⟩ := id A5
    obtain ⟨_, _, b0, b1, b2⟩ := id B5
    go_wp2_with fail
    go_ret
    exact ⟨rfl, A5.bel⟩

theorem valueThree_walk (t n : Int) (s : ByteArray) (t' n' : Int) (s' : ByteArray) (u m : Int) (r : ByteArray) (w : World) :
    Calls Try.prog 7 #[.agg #[.int .i64 t, .int .i64 n, .string s], .agg #[.int .i64 t', .int .i64 n', .string s'], .agg #[.int .i64 u, .int .i64 m, .string r]] w fun e w' => e = .returned (.bool true) ∧ Below w.heap.size w w' := by
  refine valueThree_core t n s t' n' s' u m r w _ _ _ _ (fun w => compare_any t n s t' n' s' w) (fun w => compare_any t' n' s' u m r w) (fun w => compare_any t n s u m r w) (fun w => compare_any t' n' s' t n s w) ?_ ?_ ?_
  · have h1 := V.cmp_is t n s.data.toList t' n' s'.data.toList
    have h2 := V.cmp_neg t n s.data.toList t' n' s'.data.toList
    omega
  · rw [Bool.eq_iff_iff, same_iff, decide_eq_true_eq, V.cmp_zero]
  · have h1 := V.cmp_is t n s.data.toList t' n' s'.data.toList
    have h2 := V.cmp_is t' n' s'.data.toList u m r.data.toList
    have h3 := V.cmp_tr t n s.data.toList t' n' s'.data.toList u m r.data.toList
    by_cases e1 : V.cmp t n s.data.toList t' n' s'.data.toList = 1
    · exact Or.inl e1
    · by_cases e2 : V.cmp t' n' s'.data.toList u m r.data.toList = 1
      · exact Or.inr (Or.inl e2)
      · exact Or.inr (Or.inr ⟨decide_eq_false (by omega), decide_eq_true (h3 (by omega) (by omega))⟩)

end Go.Proofs.Ytepgefjehnjibaa
