/-
  The law ValueOrder, walked: of two that may be the one ahead has the lower string, whatever stands behind both, if they are unlike.
-/
import Derived.Test.YtepgefjehnjibaaValueBackW
namespace Go.Proofs.Ytepgefjehnjibaa
open Go.RowKit

theorem below_boxes {w : World} {o o' o'' : Obj} : Below w.heap.size w (((w.alloc o).alloc o').alloc o'') := (below_box2).alloc (by simp; omega) _

theorem cell_boxes (w : World) (A B C : Array Value) (t t' t'' : TypeId) (j : Nat) :
    (((w.alloc (.cells A t)).alloc (.cells B t')).alloc (.cells C t'')).cell? ⟨w.heap.size, j, none⟩ = A[j]? ∧
    (((w.alloc (.cells A t)).alloc (.cells B t')).alloc (.cells C t'')).cell? ⟨w.heap.size + 1, j, none⟩ = B[j]? ∧
    (((w.alloc (.cells A t)).alloc (.cells B t')).alloc (.cells C t'')).cell? ⟨w.heap.size + 1 + 1, j, none⟩ = C[j]? := by
  refine ⟨?_, ?_, ?_⟩
  · rw [World.cell?_alloc_lt _ _ _ (by simp; omega), World.cell?_alloc_lt _ _ _ (by simp)]
    exact Joins.cell_alloc_mark_at _ _ _ (0, 0) _ j rfl
  · rw [World.cell?_alloc_lt _ _ _ (by simp)]
    exact Joins.cell_alloc_mark_at _ _ _ (0, 0) _ j (by simp)
  · exact Joins.cell_alloc_mark_at _ _ _ (0, 0) _ j (by simp)

/-- what the law keeps: two values and two strings, each in a block of its own -/
structure Or2 (w : World) (p q r : Nat) (t n : Int) (s : ByteArray) (t' n' : Int) (s' : ByteArray) (x y : ByteArray) (wr : World) : Prop where
  a : Kv w p t n s wr
  b : Kv w q t' n' s' wr
  rl : r < wr.heap.size
  e0 : wr.cell? ⟨r, 0, none⟩ = some (.string x)
  e1 : wr.cell? ⟨r, 1, none⟩ = some (.string y)

theorem Or2.start (w : World) (t n : Int) (s : ByteArray) (t' n' : Int) (s' : ByteArray) (x y : ByteArray) :
    Or2 w w.heap.size (w.heap.size + 1) (w.heap.size + 1 + 1) t n s t' n' s' x y (((w.alloc (.cells #[.int .i64 t, .int .i64 n, .string s] 23)).alloc (.cells #[.int .i64 t', .int .i64 n', .string s'] 23)).alloc (.cells #[.string x, .string y] 36)) := by
  have h := fun j => cell_boxes w #[.int .i64 t, .int .i64 n, .string s] #[.int .i64 t', .int .i64 n', .string s'] #[.string x, .string y] 23 23 36 j
  exact ⟨⟨below_boxes, by simp; omega, (h 0).1, (h 1).1, (h 2).1⟩, ⟨below_boxes, by simp, (h 0).2.1, (h 1).2.1, (h 2).2.1⟩, by simp, (h 0).2.2, (h 1).2.2⟩

section
variable {w wr w' : World} {p q r : Nat} {t n t' n' : Int} {s s' x y : ByteArray}

theorem Or2.step (h : Or2 w p q r t n s t' n' s' x y wr) (hb : Below wr.heap.size wr w') : Or2 w p q r t n s t' n' s' x y w' :=
  ⟨h.a.step hb, h.b.step hb, Nat.lt_of_lt_of_le h.rl hb.size, (hb.cell h.rl).trans h.e0, (hb.cell h.rl).trans h.e1⟩

theorem Or2.drew (h : Or2 w p q r t n s t' n' s' x y wr) : Or2 w p q r t n s t' n' s' x y wr.drew := ⟨h.a.drew, h.b.drew, h.rl, h.e0, h.e1⟩

/-- all cells at once -/
theorem Or2.all (h : Or2 w p q r t n s t' n' s' x y wr) : wr.cell? ⟨p, 0, none⟩ = some (.int .i64 t) ∧ wr.cell? ⟨p, 1, none⟩ = some (.int .i64 n) ∧ wr.cell? ⟨p, 2, none⟩ = some (.string s) ∧
    wr.cell? ⟨q, 0, none⟩ = some (.int .i64 t') ∧ wr.cell? ⟨q, 1, none⟩ = some (.int .i64 n') ∧ wr.cell? ⟨q, 2, none⟩ = some (.string s') ∧ wr.cell? ⟨r, 0, none⟩ = some (.string x) ∧ wr.cell? ⟨r, 1, none⟩ = some (.string y) :=
  ⟨h.a.c0, h.a.c1, h.a.c2, h.b.c0, h.b.c1, h.b.c2, h.e0, h.e1⟩
end

theorem may_size {t n : Int} {s : ByteArray} (h : V.may t n s.data.toList = true) : s.size ≤ 16 := by
  have hg : s.data.toList.length = s.size := by simp
  rcases V.may_form h with ⟨_, _, h⟩ | ⟨_, h⟩ | ⟨_, _, h⟩ | ⟨_, _, h⟩
  · rw [← hg, h]; decide
  · rw [← hg, h]; decide
  · omega
  · rw [← hg, h]; decide

set_option maxRecDepth 100000 in
set_option maxHeartbeats 2000000 in
/-- one of both may not be -/
theorem valueOrder_no (t n : Int) (s : ByteArray) (t' n' : Int) (s' x y : ByteArray) (w : World) (h : V.may t n s.data.toList = false ∨ (V.may t n s.data.toList = true ∧ V.may t' n' s'.data.toList = false)) :
    Calls Try.prog 6 #[.agg #[.int .i64 t, .int .i64 n, .string s], .agg #[.int .i64 t', .int .i64 n', .string s'], .agg #[.string x, .string y]] w fun e w' => e = .returned (.bool true) ∧ Below w.heap.size w w' := by
  have I0 := Or2.start w t n s t' n' s' x y
  have H1 := Lib.hid (fun w => may_any t n s w)
  have H2 := Lib.hid (fun w => may_any t' n' s' w)
  rcases h with h | ⟨h, h'⟩
  · rw [h] at H1
    clear h
    go_enter Try.func6, Try.ntmps6
    go_wp2_with fail
    refine (awake_any _).mono ?_
    rintro e w1 ⟨rfl, hb⟩
    have I1 := I0.step hb
    clear I0 hb
    generalize w.heap.size + 1 + 1 = r at I1
    generalize w.heap.size + 1 = q at I1
    generalize w.heap.size = p at I1
    obtain ⟨c0, c1, c2, d0, d1, d2, e0, e1⟩ := I1.all
    go_wp2_with fail
    refine (H1.out _).mono ?_
    rintro e w2 ⟨rfl, hb⟩
    have I2 := I1.step hb
    clear I1 hb
    go_wp2_with fail
    go_ret
    exact ⟨rfl, I2.a.bel⟩
  · rw [h] at H1
    rw [h'] at H2
    clear h h'
    go_enter Try.func6, Try.ntmps6
    go_wp2_with fail
    refine (awake_any _).mono ?_
    rintro e w1 ⟨rfl, hb⟩
    have I1 := I0.step hb
    clear I0 hb
    generalize w.heap.size + 1 + 1 = r at I1
    generalize w.heap.size + 1 = q at I1
    generalize w.heap.size = p at I1
    obtain ⟨c0, c1, c2, d0, d1, d2, e0, e1⟩ := I1.all
    go_wp2_with fail
    refine (H1.out _).mono ?_
    rintro e w2 ⟨rfl, hb⟩
    have I2 := I1.step hb
    clear I1 hb c0 c1 c2 d0 d1 d2 e0 e1
    obtain ⟨c0, c1, c2, d0, d1, d2, e0, e1⟩ := I2.all
    go_wp2_with fail
    refine (H2.out _).mono ?_
    rintro e w3 ⟨rfl, hb⟩
    have I3 := I2.step hb
    clear I2 hb
    go_wp2_with fail
    go_ret
    exact ⟨rfl, I3.a.bel⟩

set_option maxRecDepth 100000 in
set_option maxHeartbeats 2000000 in
/-- both may be, and are the same -/
theorem valueOrder_same (t n : Int) (s x y : ByteArray) (w : World) (h : V.may t n s.data.toList = true) (n0 : -9223372036854775808 ≤ n) (n1 : n ≤ 9223372036854775807) :
    Calls Try.prog 6 #[.agg #[.int .i64 t, .int .i64 n, .string s], .agg #[.int .i64 t, .int .i64 n, .string s], .agg #[.string x, .string y]] w fun e w' => e = .returned (.bool true) ∧ Below w.heap.size w w' := by
  have I0 := Or2.start w t n s t n s x y
  have Q := eql_val
  have hsame := same_self t n s
  have hs := may_size h
  have H1 := Lib.hid (fun w => may_any t n s w)
  have H3 := Lib.hid (fun w => compare_any t n s t n s w)
  have HP := Lib.hid (fun w => put_any t n s w n0 n1 (by omega))
  rw [h] at H1
  rw [(V.cmp_zero t n s.data.toList t n s.data.toList).2 ⟨rfl, rfl, rfl⟩] at H3
  clear h
  obtain ⟨X, hX⟩ : ∃ X : ByteArray, X = ⟨(V.put t n s.data.toList).toArray⟩ := ⟨_, rfl⟩
  rw [← hX] at HP
  clear hX
  go_enter Try.func6, Try.ntmps6
  go_wp2_with fail
  refine (awake_any _).mono ?_
  rintro e w1 ⟨rfl, hb⟩
  have I1 := I0.step hb
  clear I0 hb
  generalize w.heap.size + 1 + 1 = r at I1
  generalize w.heap.size + 1 = q at I1
  generalize w.heap.size = p at I1
  obtain ⟨c0, c1, c2, d0, d1, d2, e0, e1⟩ := I1.all
  go_wp2_with fail
  refine (H1.out _).mono ?_
  rintro e w2 ⟨rfl, hb⟩
  have I2 := I1.step hb
  clear I1 hb c0 c1 c2 d0 d1 d2 e0 e1
  obtain ⟨c0, c1, c2, d0, d1, d2, e0, e1⟩ := I2.all
  go_wp2_with fail
  refine (H1.out _).mono ?_
  rintro e w3 ⟨rfl, hb⟩
  have I3 := I2.step hb
  clear I2 hb c0 c1 c2 d0 d1 d2 e0 e1
  obtain ⟨c0, c1, c2, d0, d1, d2, e0, e1⟩ := I3.all
  go_wp2_with fail
  refine (H3.out _).mono ?_
  rintro e w4 ⟨rfl, hb⟩
  have I4 := I3.step hb
  clear I3 hb c0 c1 c2 d0 d1 d2 e0 e1
  obtain ⟨c0, c1, c2, d0, d1, d2, e0, e1⟩ := I4.all
  go_wp2_with fail
  go_region_held3 (fun w' => w'.cell? ⟨p, 0, none⟩ = some (.int .i64 t) ∧ w'.cell? ⟨p, 1, none⟩ = some (.int .i64 n) ∧ w'.cell? ⟨p, 2, none⟩ = some (.string s) ∧ w'.cell? ⟨q, 0, none⟩ = some (.int .i64 t) ∧ w'.cell? ⟨q, 1, none⟩ = some (.int .i64 n) ∧ w'.cell? ⟨q, 2, none⟩ = some (.string s) ∧ w'.cell? ⟨r, 0, none⟩ = some (.string x) ∧ w'.cell? ⟨r, 1, none⟩ = some (.string y))
    (first | assumption | exact hI5.all | exact hI6.all | go_keep)
    (first
      | (go_at_call 12; refine (HP.out _).mono ?_; rintro e w6 ⟨rfl, hbn⟩; have hI6 := hI5.step hbn; have hA := hI6.all)
      | (go_at_call 12; refine (HP.out _).mono ?_; rintro e w5 ⟨rfl, hbn⟩; have hI5 := I4.drew.step hbn; have hA := hI5.all))
  all_goals (try go_wp2)
  all_goals go_ret
  all_goals exact ⟨rfl, hI6.a.bel⟩

set_option maxRecDepth 100000 in
set_option maxHeartbeats 2000000 in
/-- both may be, and are unlike: the walk, with the order of their strings at hand -/
theorem valueOrder_core (t n : Int) (s : ByteArray) (t' n' : Int) (s' x y X Y : ByteArray) (c : Int) (w : World)
    (H1 : ∀ w, Calls Try.prog 10 #[.agg #[.int .i64 t, .int .i64 n, .string s]] w fun e w' => e = .returned (.bool true) ∧ Below w.heap.size w w')
    (H2 : ∀ w, Calls Try.prog 10 #[.agg #[.int .i64 t', .int .i64 n', .string s']] w fun e w' => e = .returned (.bool true) ∧ Below w.heap.size w w')
    (H3 : ∀ w, Calls Try.prog 14 #[.agg #[.int .i64 t, .int .i64 n, .string s], .agg #[.int .i64 t', .int .i64 n', .string s']] w fun e w' => e = .returned (.int .i64 c) ∧ Below w.heap.size w w')
    (H4 : ∀ w, Calls Try.prog 12 #[.agg #[.int .i64 t, .int .i64 n, .string s]] w fun e w' => e = .returned (.string X) ∧ Below w.heap.size w w')
    (H5 : ∀ w, Calls Try.prog 12 #[.agg #[.int .i64 t', .int .i64 n', .string s']] w fun e w' => e = .returned (.string Y) ∧ Below w.heap.size w w')
    (hsame : same t n s t' n' s' = false) (nx : ¬ 9223372036854775807 < X.size + x.size) (ny : ¬ 9223372036854775807 < Y.size + y.size)
    (hc : (c = -1 ∧ Op.bytesLess (X ++ x).toList (Y ++ y).toList = true) ∨ (c = 1 ∧ Op.bytesLess (X ++ x).toList (Y ++ y).toList = false)) :
    Calls Try.prog 6 #[.agg #[.int .i64 t, .int .i64 n, .string s], .agg #[.int .i64 t', .int .i64 n', .string s'], .agg #[.string x, .string y]] w fun e w' => e = .returned (.bool true) ∧ Below w.heap.size w w' := by
  have I0 := Or2.start w t n s t' n' s' x y
  have Q := eql_val
  have Q' := neq_val
  have H1 := Lib.hid H1
  have H2 := Lib.hid H2
  have H3 := Lib.hid H3
  have H4 := Lib.hid H4
  have H5 := Lib.hid H5
  rcases hc with ⟨rfl, hl⟩ | ⟨rfl, hl⟩
  · go_enter Try.func6, Try.ntmps6
    go_wp2_with fail
    refine (awake_any _).mono ?_
    rintro e w1 ⟨rfl, hb⟩
    have I1 := I0.step hb
    clear I0 hb
    generalize w.heap.size + 1 + 1 = r at I1
    generalize w.heap.size + 1 = q at I1
    generalize w.heap.size = p at I1
    obtain ⟨c0, c1, c2, d0, d1, d2, e0, e1⟩ := I1.all
    go_wp2_with fail
    refine (H1.out _).mono ?_
    rintro e w2 ⟨rfl, hb⟩
    have I2 := I1.step hb
    clear I1 hb c0 c1 c2 d0 d1 d2 e0 e1
    obtain ⟨c0, c1, c2, d0, d1, d2, e0, e1⟩ := I2.all
    go_wp2_with fail
    refine (H2.out _).mono ?_
    rintro e w3 ⟨rfl, hb⟩
    have I3 := I2.step hb
    clear I2 hb c0 c1 c2 d0 d1 d2 e0 e1
    obtain ⟨c0, c1, c2, d0, d1, d2, e0, e1⟩ := I3.all
    go_wp2_with fail
    refine (H3.out _).mono ?_
    rintro e w4 ⟨rfl, hb⟩
    have I4 := I3.step hb
    clear I3 hb c0 c1 c2 d0 d1 d2 e0 e1
    obtain ⟨c0, c1, c2, d0, d1, d2, e0, e1⟩ := I4.all
    go_wp2_with fail
    go_region_held3 (fun w' => w'.cell? ⟨p, 0, none⟩ = some (.int .i64 t) ∧ w'.cell? ⟨p, 1, none⟩ = some (.int .i64 n) ∧ w'.cell? ⟨p, 2, none⟩ = some (.string s) ∧ w'.cell? ⟨q, 0, none⟩ = some (.int .i64 t') ∧ w'.cell? ⟨q, 1, none⟩ = some (.int .i64 n') ∧ w'.cell? ⟨q, 2, none⟩ = some (.string s') ∧ w'.cell? ⟨r, 0, none⟩ = some (.string x) ∧ w'.cell? ⟨r, 1, none⟩ = some (.string y))
      (first | assumption | exact hI5.all | exact hI6.all | go_keep)
      (first
        | (go_at_call 12; (with_reducible refine (H5.out _).mono ?_); rintro e w6 ⟨rfl, hbn⟩; have hI6 := hI5.step hbn; have hA := hI6.all)
        | (go_at_call 12; (with_reducible refine (H4.out _).mono ?_); rintro e w5 ⟨rfl, hbn⟩; have hI5 := I4.drew.step hbn; have hA := hI5.all))
    all_goals (try go_wp2)
    all_goals go_ret
    all_goals exact ⟨rfl, hI6.a.bel⟩
  · go_enter Try.func6, Try.ntmps6
    go_wp2_with fail
    refine (awake_any _).mono ?_
    rintro e w1 ⟨rfl, hb⟩
    have I1 := I0.step hb
    clear I0 hb
    generalize w.heap.size + 1 + 1 = r at I1
    generalize w.heap.size + 1 = q at I1
    generalize w.heap.size = p at I1
    obtain ⟨c0, c1, c2, d0, d1, d2, e0, e1⟩ := I1.all
    go_wp2_with fail
    refine (H1.out _).mono ?_
    rintro e w2 ⟨rfl, hb⟩
    have I2 := I1.step hb
    clear I1 hb c0 c1 c2 d0 d1 d2 e0 e1
    obtain ⟨c0, c1, c2, d0, d1, d2, e0, e1⟩ := I2.all
    go_wp2_with fail
    refine (H2.out _).mono ?_
    rintro e w3 ⟨rfl, hb⟩
    have I3 := I2.step hb
    clear I2 hb c0 c1 c2 d0 d1 d2 e0 e1
    obtain ⟨c0, c1, c2, d0, d1, d2, e0, e1⟩ := I3.all
    go_wp2_with fail
    refine (H3.out _).mono ?_
    rintro e w4 ⟨rfl, hb⟩
    have I4 := I3.step hb
    clear I3 hb c0 c1 c2 d0 d1 d2 e0 e1
    obtain ⟨c0, c1, c2, d0, d1, d2, e0, e1⟩ := I4.all
    go_wp2_with fail
    go_region_held3 (fun w' => w'.cell? ⟨p, 0, none⟩ = some (.int .i64 t) ∧ w'.cell? ⟨p, 1, none⟩ = some (.int .i64 n) ∧ w'.cell? ⟨p, 2, none⟩ = some (.string s) ∧ w'.cell? ⟨q, 0, none⟩ = some (.int .i64 t') ∧ w'.cell? ⟨q, 1, none⟩ = some (.int .i64 n') ∧ w'.cell? ⟨q, 2, none⟩ = some (.string s') ∧ w'.cell? ⟨r, 0, none⟩ = some (.string x) ∧ w'.cell? ⟨r, 1, none⟩ = some (.string y))
      (first | assumption | exact hI5.all | exact hI6.all | go_keep)
      (first
        | (go_at_call 12; (with_reducible refine (H5.out _).mono ?_); rintro e w6 ⟨rfl, hbn⟩; have hI6 := hI5.step hbn; have hA := hI6.all)
        | (go_at_call 12; (with_reducible refine (H4.out _).mono ?_); rintro e w5 ⟨rfl, hbn⟩; have hI5 := I4.drew.step hbn; have hA := hI5.all))
    all_goals (try go_wp2)
    all_goals go_ret
    all_goals exact ⟨rfl, hI6.a.bel⟩

theorem valueOrder_walk (t n : Int) (s : ByteArray) (t' n' : Int) (s' x y : ByteArray) (w : World) (n0 : -9223372036854775808 ≤ n) (n1 : n ≤ 9223372036854775807) (m0 : -9223372036854775808 ≤ n') (m1 : n' ≤ 9223372036854775807) (hx : x.size ≤ 140737488351232) (hy : y.size ≤ 140737488351232) :
    Calls Try.prog 6 #[.agg #[.int .i64 t, .int .i64 n, .string s], .agg #[.int .i64 t', .int .i64 n', .string s'], .agg #[.string x, .string y]] w fun e w' => e = .returned (.bool true) ∧ Below w.heap.size w w' := by
  cases h : V.may t n s.data.toList
  · exact valueOrder_no t n s t' n' s' x y w (Or.inl h)
  · cases h' : V.may t' n' s'.data.toList
    · exact valueOrder_no t n s t' n' s' x y w (Or.inr ⟨h, h'⟩)
    · by_cases hz : V.cmp t n s.data.toList t' n' s'.data.toList = 0
      · obtain ⟨rfl, rfl, e⟩ := (V.cmp_zero ..).1 hz
        obtain rfl := ba_eq e
        exact valueOrder_same t n s x y w h n0 n1
      · have hs := may_size h
        have hs' := may_size h'
        have hX := put_size t n s
        have hY := put_size t' n' s'
        have hl := V.put_less x.data.toList y.data.toList h h' n0 n1 m0 m1 hz
        have his := V.cmp_is t n s.data.toList t' n' s'.data.toList
        refine valueOrder_core t n s t' n' s' x y _ _ _ w (fun w => by have := may_any t n s w; rw [h] at this; exact this) (fun w => by have := may_any t' n' s' w; rw [h'] at this; exact this)
          (fun w => compare_any t n s t' n' s' w) (fun w => put_any t n s w n0 n1 (by omega)) (fun w => put_any t' n' s' w m0 m1 (by omega)) ?_ (by omega) (by omega) ?_
        · exact same_no (fun g => hz ((V.cmp_zero ..).2 g))
        · rw [ByteArray.toList_eq, ByteArray.toList_eq, put_behind, put_behind, hl]
          rcases his with e | e | e
          · exact Or.inl ⟨e, by rw [e]; decide⟩
          · exact absurd e hz
          · exact Or.inr ⟨e, by rw [e]; decide⟩

end Go.Proofs.Ytepgefjehnjibaa
