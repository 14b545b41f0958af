/-
  Walks of layer value: the order as the document has it; a value's string, by the program and by the document.
-/
import Derived.Test.YtepgefjehnjibaaValW3
namespace Go.Proofs.Ytepgefjehnjibaa
open Go.RowKit

theorem below_box2 {w : World} {o o' : Obj} : Below w.heap.size w ((w.alloc o).alloc o') := ((Below.refl _ _).alloc (Nat.le_refl _) _).alloc (by simp) _

theorem ahead_any (t n : Int) (s : ByteArray) (t' n' : Int) (s' : ByteArray) (w : World) :
    Calls Try.prog 27 #[.agg #[.int .i64 t, .int .i64 n, .string s], .agg #[.int .i64 t', .int .i64 n', .string s']] w fun e w' => e = .returned (.bool (decide (V.cmp t n s.data.toList t' n' s'.data.toList < 0))) ∧ Below w.heap.size w w' := by
  by_cases ht : t = t'
  · subst ht
    by_cases hn : n = n'
    · subst hn
      have E : decide (V.cmp t n s.data.toList t n s'.data.toList < 0) = Op.bytesLess s.toList s'.toList := by
        rw [V.cmp, if_pos (V.cmpI_self _), if_pos (V.cmpI_self _), Bool.eq_iff_iff, decide_eq_true_eq, V.cmpS_lt, ByteArray.toList_eq, ByteArray.toList_eq]
      rw [E]
      clear E
      go_enter Try.func27, Try.ntmps27
      go_wp2
      go_ret
      exact ⟨rfl, below_box2⟩
    · have E : decide (V.cmp t n s.data.toList t n' s'.data.toList < 0) = decide (n < n') := by
        rw [V.cmp, if_pos (V.cmpI_self _), if_neg (fun g => hn (V.cmpI_zero.1 g)), Bool.eq_iff_iff, decide_eq_true_eq, V.cmpI_lt, decide_eq_true_eq]
      rw [E]
      clear E
      go_enter Try.func27, Try.ntmps27
      go_wp2
      go_ret
      exact ⟨rfl, below_box2⟩
  · have E : decide (V.cmp t n s.data.toList t' n' s'.data.toList < 0) = decide (t < t') := by
      rw [V.cmp, if_neg (fun g => ht (V.cmpI_zero.1 g)), Bool.eq_iff_iff, decide_eq_true_eq, V.cmpI_lt, decide_eq_true_eq]
    rw [E]
    clear E
    go_enter Try.func27, Try.ntmps27
    go_wp2
    go_ret
    exact ⟨rfl, below_box2⟩

/-- two values that the caller keeps, each in a block of its own -/
structure In2 (w : World) (p q : Nat) (t n : Int) (s : ByteArray) (t' n' : Int) (s' : ByteArray) (wr : World) : Prop where
  bel : Below w.heap.size w wr
  p0 : p < wr.heap.size
  q0 : q < wr.heap.size
  c0 : wr.cell? ⟨p, 0, none⟩ = some (.int .i64 t)
  c1 : wr.cell? ⟨p, 1, none⟩ = some (.int .i64 n)
  c2 : wr.cell? ⟨p, 2, none⟩ = some (.string s)
  d0 : wr.cell? ⟨q, 0, none⟩ = some (.int .i64 t')
  d1 : wr.cell? ⟨q, 1, none⟩ = some (.int .i64 n')
  d2 : wr.cell? ⟨q, 2, none⟩ = some (.string s')

theorem In2.start (w : World) (t n : Int) (s : ByteArray) (t' n' : Int) (s' : ByteArray) : In2 w w.heap.size (w.heap.size + 1) t n s t' n' s' ((w.alloc (.cells #[.int .i64 t, .int .i64 n, .string s] 23)).alloc (.cells #[.int .i64 t', .int .i64 n', .string s'] 23)) :=
  ⟨below_box2, by simp; omega, by simp, by simp, by simp, by simp, Joins.cell_alloc_mark_at _ _ _ (0, 0) _ 0 (by simp), Joins.cell_alloc_mark_at _ _ _ (0, 0) _ 1 (by simp), Joins.cell_alloc_mark_at _ _ _ (0, 0) _ 2 (by simp)⟩

theorem In2.step {w wr w' : World} {p q : Nat} {t n t' n' : Int} {s s' : ByteArray} (h : In2 w p q t n s t' n' s' wr) (hb : Below wr.heap.size wr w') : In2 w p q t n s t' n' s' w' :=
  have z := h.bel.size
  have y := hb.size
  ⟨h.bel.trans (hb.mono z), Nat.lt_of_lt_of_le h.p0 y, Nat.lt_of_lt_of_le h.q0 y, (hb.cell h.p0).trans h.c0, (hb.cell h.p0).trans h.c1, (hb.cell h.p0).trans h.c2, (hb.cell h.q0).trans h.d0, (hb.cell h.q0).trans h.d1, (hb.cell h.q0).trans h.d2⟩

theorem In2.drew {w wr : World} {p q : Nat} {t n t' n' : Int} {s s' : ByteArray} (h : In2 w p q t n s t' n' s' wr) : In2 w p q t n s t' n' s' wr.drew :=
  ⟨h.bel.drew, h.p0, h.q0, h.c0, h.c1, h.c2, h.d0, h.d1, h.d2⟩

theorem In2.alloc {w wr : World} {p q : Nat} {t n t' n' : Int} {s s' : ByteArray} (h : In2 w p q t n s t' n' s' wr) (o : Obj) : In2 w p q t n s t' n' s' (wr.alloc o) :=
  h.step ((Below.refl _ _).alloc (Nat.le_refl _) o)

set_option maxHeartbeats 1000000 in
theorem rcompare_any (t n : Int) (s : ByteArray) (t' n' : Int) (s' : ByteArray) (w : World) :
    Calls Try.prog 15 #[.agg #[.int .i64 t, .int .i64 n, .string s], .agg #[.int .i64 t', .int .i64 n', .string s']] w fun e w' => e = .returned (.int .i64 (V.cmp t n s.data.toList t' n' s'.data.toList)) ∧ Below w.heap.size w w' := by
  have H1 := Lib.hid (fun w => ahead_any t n s t' n' s' w)
  have H2 := Lib.hid (fun w => ahead_any t' n' s' t n s w)
  have I0 := In2.start w t n s t' n' s'
  rw [V.cmp_neg t' n' s'.data.toList t n s.data.toList] at H2
  rcases V.cmp_is t n s.data.toList t' n' s'.data.toList with g | g | g
  · rw [g] at H1 ⊢
    go_enter Try.func15, Try.ntmps15
    go_wp2_with fail
    refine (H1.out _).mono ?_
    rintro e w1 ⟨rfl, hb⟩
    have I1 := I0.step hb
    clear I0 hb
    go_wp2
    go_ret
    exact ⟨rfl, I1.bel⟩
  · rw [g] at H1 H2 ⊢
    go_enter Try.func15, Try.ntmps15
    go_wp2_with fail
    refine (H1.out _).mono ?_
    rintro e w1 ⟨rfl, hb⟩
    have I1 := I0.step hb
    clear I0 hb
    obtain ⟨_, _, _, c0, c1, c2, d0, d1, d2⟩ := id I1
    go_wp2_with fail
    refine (H2.out _).mono ?_
    rintro e w2 ⟨rfl, hb⟩
    have I2 := I1.step hb
    clear I1 hb
    go_wp2
    go_ret
    exact ⟨rfl, I2.bel⟩
  · rw [g] at H1 H2 ⊢
    go_enter Try.func15, Try.ntmps15
    go_wp2_with fail
    refine (H1.out _).mono ?_
    rintro e w1 ⟨rfl, hb⟩
    have I1 := I0.step hb
    clear I0 hb
    obtain ⟨_, _, _, c0, c1, c2, d0, d1, d2⟩ := id I1
    go_wp2_with fail
    refine (H2.out _).mono ?_
    rintro e w2 ⟨rfl, hb⟩
    have I2 := I1.step hb
    clear I1 hb
    go_wp2
    go_ret
    exact ⟨rfl, I2.bel⟩

end Go.Proofs.Ytepgefjehnjibaa
