/-
  The landed cells: keys compared (cmp.Compare, cmp.Or, compare, Less).
-/
import Derived.Test.YtmlocdfjjgbnjaaClRef1
import Derived.Deep.RegionHeld3
import Derived.Lib.SmallJoins
import Derived.Sort.Grow
import Derived.Deep.Draws
namespace Go.Proofs.Ytmlocdfjjgbnjaa
open Go.RowKit

def cmpI (a b : Int) : Int := if a < b then -1 else if b < a then 1 else 0
def or3 (x y z : Int) : Int := if x = 0 then (if y = 0 then z else y) else x
def cmpK (x y : Cl.Ky) : Int := or3 (cmpI x.kind y.kind) (cmpI x.a y.a) (cmpI x.b y.b)

theorem cmpI_neg (a b : Int) : cmpI a b < 0 ↔ a < b := by unfold cmpI; split <;> (try split) <;> omega
theorem cmpI_zero (a b : Int) : cmpI a b = 0 ↔ a = b := by unfold cmpI; split <;> (try split) <;> omega
theorem cmpK_neg (x y : Cl.Ky) : decide (cmpK x y < 0) = Cl.less x y := by
  rw [Bool.eq_iff_iff, decide_eq_true_eq, Cl.less_iff]
  unfold cmpK or3
  have h1 := cmpI_neg x.kind y.kind
  have h2 := cmpI_neg x.a y.a
  have h3 := cmpI_neg x.b y.b
  have z1 := cmpI_zero x.kind y.kind
  have z2 := cmpI_zero x.a y.a
  by_cases g1 : cmpI x.kind y.kind = 0
  · rw [if_pos g1]
    have e1 := z1.1 g1
    by_cases g2 : cmpI x.a y.a = 0
    · rw [if_pos g2, h3]
      have e2 := z2.1 g2
      omega
    · rw [if_neg g2, h2]
      have e2 : x.a ≠ y.a := fun e => g2 (z2.2 e)
      omega
  · rw [if_neg g1, h1]
    have e1 : x.kind ≠ y.kind := fun e => g1 (z1.2 e)
    omega

theorem isNaNi_any (x : Int) (w : World) : Calls Try.prog 63 #[.int .i64 x] w fun e w' => e = .returned (.bool false) ∧ w = w' := by
  go_enter Try.func63, Try.ntmps63
  go_wp2
  go_ret
  exact ⟨by simp, rfl⟩

theorem cmpi_any (a b : Int) (w : World) : Calls Try.prog 58 #[.int .i64 a, .int .i64 b] w fun e w' => e = .returned (.int .i64 (cmpI a b)) ∧ w = w' := by
  rcases Int.lt_trichotomy a b with h | h | h
  · rw [show cmpI a b = -1 by rw [cmpI, if_pos h]]
    go_enter Try.func58, Try.ntmps58
    go_wp2_with fail
    refine (isNaNi_any _ w).mono ?_
    rintro e w1 ⟨rfl, rfl⟩
    go_wp2_with fail
    refine (isNaNi_any _ w).mono ?_
    rintro e w1 ⟨rfl, rfl⟩
    go_wp2
    go_ret
    exact ⟨rfl, rfl⟩
  · subst h
    rw [show cmpI a a = 0 by rw [cmpI, if_neg (by omega), if_neg (by omega)]]
    go_enter Try.func58, Try.ntmps58
    go_wp2_with fail
    refine (isNaNi_any _ w).mono ?_
    rintro e w1 ⟨rfl, rfl⟩
    go_wp2_with fail
    refine (isNaNi_any _ w).mono ?_
    rintro e w1 ⟨rfl, rfl⟩
    go_wp2
    go_ret
    exact ⟨rfl, rfl⟩
  · rw [show cmpI a b = 1 by rw [cmpI, if_neg (by omega), if_pos h]]
    have h' : ¬ a < b := by omega
    go_enter Try.func58, Try.ntmps58
    go_wp2_with fail
    refine (isNaNi_any _ w).mono ?_
    rintro e w1 ⟨rfl, rfl⟩
    go_wp2_with fail
    refine (isNaNi_any _ w).mono ?_
    rintro e w1 ⟨rfl, rfl⟩
    go_wp2
    go_ret
    exact ⟨rfl, rfl⟩

set_option maxHeartbeats 400000 in
theorem or_any (x y z : Int) (b : Nat) (w : World) (c0 : w.cell? ⟨b, 0, none⟩ = some (.int .i64 x)) (c1 : w.cell? ⟨b, 1, none⟩ = some (.int .i64 y)) (c2 : w.cell? ⟨b, 2, none⟩ = some (.int .i64 z)) :
    Calls Try.prog 57 #[.slice (some ⟨b, 0, none⟩) 3 3] w fun e w' => e = .returned (.int .i64 (or3 x y z)) ∧ w = w' := by
  go_enter Try.func57, Try.ntmps57
  go_wp2
  go_loop [8] (fun i => ∃ k : Nat, k ≤ 3 ∧ i = .int .i64 k ∧ (0 < k → x = 0) ∧ (1 < k → y = 0) ∧ (2 < k → z = 0)) (fun i => 3 - (intOf i).toNat)
  case atStart => exact ⟨0, by omega, rfl, by omega, by omega, by omega⟩
  case round =>
    obtain ⟨k, hk, rfl, h0, h1, h2⟩ := hrel
    have H0 := Lib.hid h0
    have H1 := Lib.hid h1
    have H2 := Lib.hid h2
    clear h0 h1 h2
    by_cases k0 : k = 0
    · subst k0
      by_cases hx : x = 0
      · have HX := Lib.hid hx
        have hb : ((x : Int) != 0) = false := by rw [hx]; rfl
        clear hx
        go_wp2
        go_round
        case rel => exact ⟨1, by omega, rfl, fun _ => HX.out, by omega, by omega⟩
        case measure => simp [intOf]
      · go_wp2
        go_ret
        exact ⟨ret_v (by rw [or3, if_neg hx]; rfl), rfl⟩
    · by_cases k1 : k = 1
      · subst k1
        by_cases hx : y = 0
        · have HX := Lib.hid hx
          have hb : ((y : Int) != 0) = false := by rw [hx]; rfl
          clear hx
          go_wp2
          go_round
          case rel => exact ⟨2, by omega, rfl, fun _ => H0.out (by omega), fun _ => HX.out, by omega⟩
          case measure => simp [intOf]
        · go_wp2
          go_ret
          exact ⟨ret_v (by rw [or3, if_pos (H0.out (by omega)), if_neg hx]; rfl), rfl⟩
      · by_cases k2 : k = 2
        · subst k2
          by_cases hx : z = 0
          · have HX := Lib.hid hx
            have hb : ((z : Int) != 0) = false := by rw [hx]; rfl
            clear hx
            go_wp2
            go_round
            case rel => exact ⟨3, by omega, rfl, fun _ => H0.out (by omega), fun _ => H1.out (by omega), fun _ => HX.out⟩
            case measure => simp [intOf]
          · go_wp2
            go_ret
            exact ⟨ret_v (by rw [or3, if_pos (H0.out (by omega)), if_pos (H1.out (by omega))]; rfl), rfl⟩
        · obtain rfl : k = 3 := by omega
          go_wp2
          go_ret
          exact ⟨ret_v (by rw [or3, if_pos (H0.out (by omega)), if_pos (H1.out (by omega)), H2.out (by omega)]; rfl), rfl⟩

/-- the world behind it: draws and new blocks alone -/
def Grew (w w' : World) : Prop := ∃ (q : Nat) (os : Array Obj), w' = Go.Sort.grow (w.drewN q) os
theorem Grew.refl (w : World) : Grew w w := ⟨0, #[], by simp [Go.Sort.grow, World.drewN]⟩
theorem Grew.alloc {w w' : World} (h : Grew w w') (o : Obj) : Grew w (w'.alloc o) := by
  obtain ⟨q, os, rfl⟩ := h
  exact ⟨q, os.push o, by simp [Go.Sort.grow, World.alloc]⟩
theorem Grew.drew {w w' : World} (h : Grew w w') : Grew w w'.drew := by
  obtain ⟨q, os, rfl⟩ := h
  exact ⟨q + 1, os, rfl⟩
theorem Grew.below {w w' : World} (h : Grew w w') : Below w.heap.size w w' := by
  obtain ⟨q, os, rfl⟩ := h
  exact ⟨rfl, rfl, rfl, by simp [World.drewN], fun k hk => Go.Sort.heap_grow_old (w.drewN q) os hk⟩

set_option maxRecDepth 100000 in
set_option maxHeartbeats 2000000 in
theorem compare11 (x y : Cl.Ky) (w : World) : Calls Try.prog 49 #[keyA x, keyA y] w fun e w' => e = .returned (.int .i64 (cmpK x y)) ∧ Grew w w' := by
  have HC := Lib.hid cmpi_any
  have hg0 := ((Grew.refl w).alloc (.cells #[.int .i64 x.kind, .int .i64 x.a, .int .i64 x.b] 50)).alloc (.cells #[.int .i64 y.kind, .int .i64 y.a, .int .i64 y.b] 50)
  have c0 : ((w.alloc (.cells #[.int .i64 x.kind, .int .i64 x.a, .int .i64 x.b] 50)).alloc (.cells #[.int .i64 y.kind, .int .i64 y.a, .int .i64 y.b] 50)).cell? ⟨w.heap.size, 0, none⟩ = some (.int .i64 x.kind) := by simp
  have c1 : ((w.alloc (.cells #[.int .i64 x.kind, .int .i64 x.a, .int .i64 x.b] 50)).alloc (.cells #[.int .i64 y.kind, .int .i64 y.a, .int .i64 y.b] 50)).cell? ⟨w.heap.size, 1, none⟩ = some (.int .i64 x.a) := by simp
  have c2 : ((w.alloc (.cells #[.int .i64 x.kind, .int .i64 x.a, .int .i64 x.b] 50)).alloc (.cells #[.int .i64 y.kind, .int .i64 y.a, .int .i64 y.b] 50)).cell? ⟨w.heap.size, 2, none⟩ = some (.int .i64 x.b) := by simp
  have d0 : ((w.alloc (.cells #[.int .i64 x.kind, .int .i64 x.a, .int .i64 x.b] 50)).alloc (.cells #[.int .i64 y.kind, .int .i64 y.a, .int .i64 y.b] 50)).cell? ⟨w.heap.size + 1, 0, none⟩ = some (.int .i64 y.kind) := Joins.cell_alloc_mark_at _ _ _ (0, 0) _ 0 (by simp)
  have d1 : ((w.alloc (.cells #[.int .i64 x.kind, .int .i64 x.a, .int .i64 x.b] 50)).alloc (.cells #[.int .i64 y.kind, .int .i64 y.a, .int .i64 y.b] 50)).cell? ⟨w.heap.size + 1, 1, none⟩ = some (.int .i64 y.a) := Joins.cell_alloc_mark_at _ _ _ (0, 0) _ 1 (by simp)
  have d2 : ((w.alloc (.cells #[.int .i64 x.kind, .int .i64 x.a, .int .i64 x.b] 50)).alloc (.cells #[.int .i64 y.kind, .int .i64 y.a, .int .i64 y.b] 50)).cell? ⟨w.heap.size + 1, 2, none⟩ = some (.int .i64 y.b) := Joins.cell_alloc_mark_at _ _ _ (0, 0) _ 2 (by simp)
  unfold keyA
  go_enter Try.func49, Try.ntmps49
  go_wp2_with fail
  obtain ⟨p, hp⟩ : ∃ p, p = w.heap.size := ⟨_, rfl⟩
  obtain ⟨q, hq⟩ : ∃ q, q = p + 1 := ⟨_, rfl⟩
  rw [← hp, ← hq] at d0 d1 d2
  rw [← hp] at c0 c1 c2
  rw [← hp]
  rw [← hq]
  generalize (w.alloc (.cells #[.int .i64 x.kind, .int .i64 x.a, .int .i64 x.b] 50)).alloc (.cells #[.int .i64 y.kind, .int .i64 y.a, .int .i64 y.b] 50) = w2 at hg0 c0 c1 c2 d0 d1 d2
  clear hp hq
  have HG := Lib.hid hg0
  clear hg0
  obtain ⟨k1, e1⟩ : ∃ k, k = x.kind := ⟨_, rfl⟩
  obtain ⟨k2, e2⟩ : ∃ k, k = x.a := ⟨_, rfl⟩
  obtain ⟨k3, e3⟩ : ∃ k, k = x.b := ⟨_, rfl⟩
  obtain ⟨l1, f1⟩ : ∃ k, k = y.kind := ⟨_, rfl⟩
  obtain ⟨l2, f2⟩ : ∃ k, k = y.a := ⟨_, rfl⟩
  obtain ⟨l3, f3⟩ : ∃ k, k = y.b := ⟨_, rfl⟩
  rw [← e1] at c0
  rw [← e2] at c1
  rw [← e3] at c2
  rw [← f1] at d0
  rw [← f2] at d1
  rw [← f3] at d2
  rw [← e1, ← e2, ← e3, ← f1, ← f2, ← f3]
  have HE : Hid (cmpK x y = or3 (cmpI k1 l1) (cmpI k2 l2) (cmpI k3 l3)) := Lib.hid (by unfold cmpK; rw [e1, e2, e3, f1, f2, f3])
  clear e1 e2 e3 f1 f2 f3
  go_region_held3 (fun w' => w'.cell? ⟨p, 0, none⟩ = some (.int .i64 k1) ∧ w'.cell? ⟨p, 1, none⟩ = some (.int .i64 k2) ∧ w'.cell? ⟨p, 2, none⟩ = some (.int .i64 k3) ∧ w'.cell? ⟨q, 0, none⟩ = some (.int .i64 l1) ∧ w'.cell? ⟨q, 1, none⟩ = some (.int .i64 l2) ∧ w'.cell? ⟨q, 2, none⟩ = some (.int .i64 l3))
    (first | assumption | go_keep)
    (first
    | (go_at_call 58; refine (HC.out _ _ _).mono ?_; rintro e w1 ⟨rfl, rfl⟩)
    | (go_at_call 57; refine (or_any _ _ _ _ _ (by simp; rfl) (by simp; rfl) (by simp; rfl)).mono ?_; rintro e w1 ⟨rfl, rfl⟩))
  all_goals (try go_wp2)
  all_goals go_ret
  all_goals exact ⟨ret_v (by rw [HE.out]; rfl), HG.out.drew.alloc _⟩

set_option maxRecDepth 100000 in
theorem less11 (x y : Cl.Ky) (w : World) : Calls Try.prog 46 #[keyA x, keyA y] w fun e w' => e = .returned (.bool (Cl.less x y)) ∧ Below w.heap.size w w' := by
  have HG := Lib.hid (((Grew.refl w).alloc (.cells #[.int .i64 x.kind, .int .i64 x.a, .int .i64 x.b] 50)).alloc (.cells #[.int .i64 y.kind, .int .i64 y.a, .int .i64 y.b] 50))
  have HL := Lib.hid (cmpK_neg x y)
  have HC := Lib.hid (fun w => compare11 x y w)
  generalize cmpK x y = r at *
  generalize Cl.less x y = b at *
  unfold keyA at *
  go_enter Try.func46, Try.ntmps46
  go_wp2_with (go_at_call 49; refine (HC.out _).mono ?_; rintro e w1 ⟨rfl, hg⟩)
  go_ret
  exact ⟨ret_v (by first | rfl | (rw [← HL.out]; rfl)), HG.out.below.trans (hg.below.mono (by simp; omega))⟩
end Go.Proofs.Ytmlocdfjjgbnjaa
