/-
  Walks of layer value: which of two values is ahead, as the program tells it.
-/
import Derived.Test.YtepgefjehnjibaaValW2
import Derived.Deep.RegionHeld3
import Derived.Lib.SmallJoins
namespace Go.Proofs.Ytepgefjehnjibaa
open Go.RowKit

def or3 (x y z : Int) : Int := if x = 0 then (if y = 0 then z else y) else x

set_option maxHeartbeats 400000 in
theorem or_any (x y z : Int) (b : Nat) (w : World) (c0 : w.cell? ⟨b, 0, none⟩ = some (.int .i64 x)) (c1 : w.cell? ⟨b, 1, none⟩ = some (.int .i64 y)) (c2 : w.cell? ⟨b, 2, none⟩ = some (.int .i64 z)) :
    Calls Try.prog 23 #[.slice (some ⟨b, 0, none⟩) 3 3] w fun e w' => e = .returned (.int .i64 (or3 x y z)) ∧ w = w' := by
  go_enter Try.func23, Try.ntmps23
  go_wp2
  go_loop [8] (fun i => ∃ k : Nat, k ≤ 3 ∧ i = .int .i64 k ∧ (0 < k → x = 0) ∧ (1 < k → y = 0) ∧ (2 < k → z = 0)) (fun i => 3 - (intOf i).toNat)
  case atStart => exact ⟨0, by omega, rfl, by omega, by omega, by omega⟩
  case round =>
    obtain ⟨k, hk, rfl, h0, h1, h2⟩ := hrel
    have H0 := Lib.hid h0
    have H1 := Lib.hid h1
    have H2 := Lib.hid h2
    clear h0 h1 h2
    by_cases k0 : k = 0
    · subst k0
      by_cases hx : x = 0
      · have HX := Lib.hid hx
        have hb : ((x : Int) != 0) = false := by rw [hx]; rfl
        clear hx
        go_wp2
        go_round
        case rel => exact ⟨1, by omega, rfl, fun _ => HX.out, by omega, by omega⟩
        case measure => simp [intOf]
      · go_wp2
        go_ret
        exact ⟨ret_v (by rw [or3, if_neg hx]; rfl), rfl⟩
    · by_cases k1 : k = 1
      · subst k1
        by_cases hx : y = 0
        · have HX := Lib.hid hx
          have hb : ((y : Int) != 0) = false := by rw [hx]; rfl
          clear hx
          go_wp2
          go_round
          case rel => exact ⟨2, by omega, rfl, fun _ => H0.out (by omega), fun _ => HX.out, by omega⟩
          case measure => simp [intOf]
        · go_wp2
          go_ret
          exact ⟨ret_v (by rw [or3, if_pos (H0.out (by omega)), if_neg hx]; rfl), rfl⟩
      · by_cases k2 : k = 2
        · subst k2
          by_cases hx : z = 0
          · have HX := Lib.hid hx
            have hb : ((z : Int) != 0) = false := by rw [hx]; rfl
            clear hx
            go_wp2
            go_round
            case rel => exact ⟨3, by omega, rfl, fun _ => H0.out (by omega), fun _ => H1.out (by omega), fun _ => HX.out⟩
            case measure => simp [intOf]
          · go_wp2
            go_ret
            exact ⟨ret_v (by rw [or3, if_pos (H0.out (by omega)), if_pos (H1.out (by omega))]; rfl), rfl⟩
        · obtain rfl : k = 3 := by omega
          go_wp2
          go_ret
          exact ⟨ret_v (by rw [or3, if_pos (H0.out (by omega)), if_pos (H1.out (by omega)), H2.out (by omega)]; rfl), rfl⟩

theorem or3_cmp (t n : Int) (s : ByteArray) (t' n' : Int) (s' : ByteArray) : or3 (V.cmpI t t') (V.cmpI n n') (V.cmpS s.data.toList s'.data.toList) = V.cmp t n s.data.toList t' n' s'.data.toList := rfl

set_option maxRecDepth 100000 in
set_option maxHeartbeats 1000000 in
theorem compare_any (t n : Int) (s : ByteArray) (t' n' : Int) (s' : ByteArray) (w : World) :
    Calls Try.prog 14 #[.agg #[.int .i64 t, .int .i64 n, .string s], .agg #[.int .i64 t', .int .i64 n', .string s']] w fun e w' => e = .returned (.int .i64 (V.cmp t n s.data.toList t' n' s'.data.toList)) ∧ Below w.heap.size w w' := by
  have Q := eql_val
  cases g : same t n s t' n' s'
  · rw [← or3_cmp]
    obtain ⟨x, hx⟩ : ∃ x, x = V.cmpI t t' := ⟨_, rfl⟩
    obtain ⟨y, hy⟩ : ∃ y, y = V.cmpI n n' := ⟨_, rfl⟩
    obtain ⟨z, hz⟩ : ∃ z, z = V.cmpS s.data.toList s'.data.toList := ⟨_, rfl⟩
    have H1 := Lib.hid (fun w => by have := cmpi_any t t' w; rw [← hx] at this; exact this)
    have H2 := Lib.hid (fun w => by have := cmpj_any n n' w; rw [← hy] at this; exact this)
    have H3 := Lib.hid (fun w => by have := cmps_any s s' w; rw [← hz] at this; exact this)
    rw [← hx, ← hy, ← hz]
    clear hx hy hz
    go_enter Try.func14, Try.ntmps14
    go_wp2_with fail
    have hb0 : Below w.heap.size w ((w.alloc (.cells #[.int .i64 t, .int .i64 n, .string s] 23)).alloc (.cells #[.int .i64 t', .int .i64 n', .string s'] 23)) := ((Below.refl _ _).alloc (Nat.le_refl _) _).alloc (by simp) _
    have c0 : ((w.alloc (.cells #[.int .i64 t, .int .i64 n, .string s] 23)).alloc (.cells #[.int .i64 t', .int .i64 n', .string s'] 23)).cell? ⟨w.heap.size, 0, none⟩ = some (.int .i64 t) := by simp
    have c1 : ((w.alloc (.cells #[.int .i64 t, .int .i64 n, .string s] 23)).alloc (.cells #[.int .i64 t', .int .i64 n', .string s'] 23)).cell? ⟨w.heap.size, 1, none⟩ = some (.int .i64 n) := by simp
    have c2 : ((w.alloc (.cells #[.int .i64 t, .int .i64 n, .string s] 23)).alloc (.cells #[.int .i64 t', .int .i64 n', .string s'] 23)).cell? ⟨w.heap.size, 2, none⟩ = some (.string s) := by simp
    have d0 : ((w.alloc (.cells #[.int .i64 t, .int .i64 n, .string s] 23)).alloc (.cells #[.int .i64 t', .int .i64 n', .string s'] 23)).cell? ⟨w.heap.size + 1, 0, none⟩ = some (.int .i64 t') := Joins.cell_alloc_mark_at _ _ _ (0, 0) _ 0 (by simp)
    have d1 : ((w.alloc (.cells #[.int .i64 t, .int .i64 n, .string s] 23)).alloc (.cells #[.int .i64 t', .int .i64 n', .string s'] 23)).cell? ⟨w.heap.size + 1, 1, none⟩ = some (.int .i64 n') := Joins.cell_alloc_mark_at _ _ _ (0, 0) _ 1 (by simp)
    have d2 : ((w.alloc (.cells #[.int .i64 t, .int .i64 n, .string s] 23)).alloc (.cells #[.int .i64 t', .int .i64 n', .string s'] 23)).cell? ⟨w.heap.size + 1, 2, none⟩ = some (.string s') := Joins.cell_alloc_mark_at _ _ _ (0, 0) _ 2 (by simp)
    obtain ⟨p, hp⟩ : ∃ p, p = w.heap.size := ⟨_, rfl⟩
    obtain ⟨q, hq⟩ : ∃ q, q = p + 1 := ⟨_, rfl⟩
    rw [← hp, ← hq] at d0 d1 d2
    rw [← hp] at c0 c1 c2
    rw [← hp]
    rw [← hq]
    generalize (w.alloc (.cells #[.int .i64 t, .int .i64 n, .string s] 23)).alloc (.cells #[.int .i64 t', .int .i64 n', .string s'] 23) = w2 at hb0 c0 c1 c2 d0 d1 d2
    clear hp hq Q g
    go_region_held3 (fun w' => w'.cell? ⟨p, 0, none⟩ = some (.int .i64 t) ∧ w'.cell? ⟨p, 1, none⟩ = some (.int .i64 n) ∧ w'.cell? ⟨p, 2, none⟩ = some (.string s) ∧ w'.cell? ⟨q, 0, none⟩ = some (.int .i64 t') ∧ w'.cell? ⟨q, 1, none⟩ = some (.int .i64 n') ∧ w'.cell? ⟨q, 2, none⟩ = some (.string s'))
      (first | assumption | go_keep)
      (first
      | (go_at_call 24; refine (H1.out _).mono ?_; rintro e w1 ⟨rfl, rfl⟩)
      | (go_at_call 25; refine (H2.out _).mono ?_; rintro e w1 ⟨rfl, rfl⟩)
      | (go_at_call 26; refine (H3.out _).mono ?_; rintro e w1 ⟨rfl, rfl⟩)
      | (go_at_call 23; refine (or_any x y z _ _ (by simp) (by simp) (by simp)).mono ?_; rintro e w1 ⟨rfl, rfl⟩))
    all_goals (try go_wp2)
    all_goals go_ret
    all_goals exact ⟨rfl, (hb0.drew.alloc hb0.size _)⟩
  · rw [(V.cmp_zero ..).2 ((same_iff ..).1 g)]
    go_enter Try.func14, Try.ntmps14
    go_wp2
    go_ret
    exact ⟨rfl, (((Below.refl _ _).alloc (Nat.le_refl _) _).alloc (by simp) _)⟩

end Go.Proofs.Ytepgefjehnjibaa
