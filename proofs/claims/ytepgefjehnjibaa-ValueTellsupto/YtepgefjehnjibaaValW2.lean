/-
  Walks of layer value: structs compared; which values may be.
-/
import Derived.Test.YtepgefjehnjibaaValW1
namespace Go.Proofs.Ytepgefjehnjibaa
open Go.RowKit

def same (t n : Int) (s : ByteArray) (t' n' : Int) (s' : ByteArray) : Bool := (t == t') && ((n == n') && (s.toList == s'.toList))

theorem und23 : Try.prog.underlying 23 = some (.struct (Try.prog.fieldsOf 23)) := by kernel_rfl
theorem held23 : Try.prog.stoodInHeld 23 = false := by kernel_rfl

theorem run_part {P : Program} {t : TypeId} {d : TypeDesc} (h : P.underlying t = some d) (hd : (match d with | .struct _ | .array _ _ => true | _ => false) = false) {xs : Array Value} {off : Nat} {v : Value} (hv : xs[off]? = some v) (w : World) :
    (part t xs off).run P w = .ok v w := by
  have ha : (isAgg t).run P w = .ok false w := by
    simp only [isAgg, Sem.run_bind, run_underlying h, Result.andThen_ok]
    cases d <;> first | rfl | simp at hd
  simp only [part, Sem.run_bind, ha, Result.andThen_ok, Bool.false_eq_true, if_false, hv]
  rfl

theorem equalIn_val (d : Nat) (t n t' n' : Int) (s s' : ByteArray) (w : World) :
    (Op.equalIn (d + 2) 23 (.agg #[.int .i64 t, .int .i64 n, .string s]) (.agg #[.int .i64 t', .int .i64 n', .string s'])).run Try.prog w = .ok (same t n s t' n' s') w := by
  rw [run_equalIn_agg w (d + 1) _ _ _ und23 held23]
  obtain ⟨f0, f1, f2, hf, h0, h1, h2⟩ : ∃ f0 f1 f2 : Field, (Try.prog.fieldsOf 23).toList = [f0, f1, f2] ∧ (f0.name, f0.type, f0.offset) = ("T", 3, 0) ∧ (f1.name, f1.type, f1.offset) = ("N", 2, 1) ∧ (f2.name, f2.type, f2.offset) = ("S", 9, 2) :=
    ⟨_, _, _, rfl, rfl, rfl, rfl⟩
  rw [hf]
  simp only [Prod.mk.injEq] at h0 h1 h2
  have p0 := fun (x y : Int) (z : ByteArray) (w : World) => run_part (P := Try.prog) (t := 3) Try.underlying3 rfl (xs := #[.int .i64 x, .int .i64 y, .string z]) (off := 0) (v := .int .i64 x) rfl w
  have p1 := fun (x y : Int) (z : ByteArray) (w : World) => run_part (P := Try.prog) (t := 2) Try.underlying2 rfl (xs := #[.int .i64 x, .int .i64 y, .string z]) (off := 1) (v := .int .i64 y) rfl w
  have p2 := fun (x y : Int) (z : ByteArray) (w : World) => run_part (P := Try.prog) (t := 9) Try.underlying9 rfl (xs := #[.int .i64 x, .int .i64 y, .string z]) (off := 2) (v := .string z) rfl w
  have e0 := fun (x y : Int) (w : World) => run_equalIn_int (P := Try.prog) w d 3 .i64 .i64 x y Try.underlying3
  have e1 := fun (x y : Int) (w : World) => run_equalIn_int (P := Try.prog) w d 2 .i64 .i64 x y Try.underlying2
  have e2 := fun (x y : ByteArray) (w : World) => run_equalIn_string (P := Try.prog) w d 9 x y Try.underlying9
  have nT : "T" ≠ "_" := by decide
  have nN : "N" ≠ "_" := by decide
  have nS : "S" ≠ "_" := by decide
  cases g1 : (t == t') <;> cases g2 : (n == n') <;> cases g3 : (s.toList == s'.toList) <;>
    simp only [Op.eqFields, h0, h1, h2, if_pos nT, if_pos nN, if_pos nS, Sem.run_bind, p0, p1, p2, Result.andThen_ok, e0, e1, e2, g1, g2, g3, same, Bool.not_true, Bool.not_false, Bool.false_eq_true, if_true, if_false, Sem.run_pure, Bool.and_true, Bool.and_false]

theorem eql_val (w : World) (t n t' n' : Int) (s s' : ByteArray) :
    (binOp .eql 23 (.agg #[.int .i64 t, .int .i64 n, .string s]) (.agg #[.int .i64 t', .int .i64 n', .string s'])).run Try.prog w = .ok (.bool (same t n s t' n' s')) w := by
  rw [run_eql_struct, equalIn_val 9998]; rfl

theorem neq_val (w : World) (t n t' n' : Int) (s s' : ByteArray) :
    (binOp .neq 23 (.agg #[.int .i64 t, .int .i64 n, .string s]) (.agg #[.int .i64 t', .int .i64 n', .string s'])).run Try.prog w = .ok (.bool (!same t n s t' n' s')) w := by
  rw [run_neq_struct, equalIn_val 9998]; rfl

theorem same_iff (t n t' n' : Int) (s s' : ByteArray) : same t n s t' n' s' = true ↔ t = t' ∧ n = n' ∧ s.data.toList = s'.data.toList := by
  unfold same; rw [ByteArray.toList_eq, ByteArray.toList_eq]; simp

theorem same_self (t n : Int) (s : ByteArray) : same t n s t n s = true := by rw [same_iff]; exact ⟨rfl, rfl, rfl⟩

theorem same_no {t n t' n' : Int} {s s' : ByteArray} (h : ¬ (t = t' ∧ n = n' ∧ s.data.toList = s'.data.toList)) : same t n s t' n' s' = false := by
  rw [← Bool.not_eq_true, same_iff]; exact h

theorem same_not (t n t' n' : Int) (s s' : ByteArray) (h : same t n s t' n' s' = false) : ¬ (t = t' ∧ n = n' ∧ s.data.toList = s'.data.toList) := by
  rw [← same_iff, h]; decide

theorem may0 (n : Int) (s : ByteArray) : V.may 0 n s.data.toList = same 0 n s 0 0 ⟨#[]⟩ := by
  rw [Bool.eq_iff_iff, same_iff, V.may, if_pos rfl]; simp

theorem may1 (n : Int) (s : ByteArray) : V.may 1 n s.data.toList = same 1 n s 1 n ⟨#[]⟩ := by
  rw [Bool.eq_iff_iff, same_iff, V.may, if_neg (by decide), if_pos rfl]; simp

theorem may2 (n : Int) (s : ByteArray) : V.may 2 n s.data.toList = (same 2 n s 2 0 s && decide (s.size ≤ 16)) := by
  rw [Bool.eq_iff_iff, Bool.and_eq_true, same_iff, V.may, if_neg (by decide), if_neg (by decide), if_pos rfl]; simp

theorem may3 (n : Int) (s : ByteArray) : V.may 3 n s.data.toList = (same 3 n s 3 0 ⟨#[]⟩ || same 3 n s 3 1 ⟨#[]⟩) := by
  rw [Bool.eq_iff_iff, Bool.or_eq_true, same_iff, same_iff, V.may, if_neg (by decide), if_neg (by decide), if_neg (by decide), if_pos rfl]; simp
  constructor
  · rintro ⟨h | h, h'⟩
    · exact Or.inl ⟨h, h'⟩
    · exact Or.inr ⟨h, h'⟩
  · rintro (⟨h, h'⟩ | ⟨h, h'⟩)
    · exact ⟨Or.inl h, h'⟩
    · exact ⟨Or.inr h, h'⟩

theorem may_no {t n : Int} {s : ByteArray} (h0 : ¬ t = 0) (h1 : ¬ t = 1) (h2 : ¬ t = 2) (h3 : ¬ t = 3) : V.may t n s.data.toList = false := by
  rw [V.may, if_neg h0, if_neg h1, if_neg h2, if_neg h3]

theorem size16 (s : ByteArray) : decide (s.size ≤ 16) = decide ((s.size : Int) ≤ 16) := by
  congr 1; apply propext; omega

theorem may_any (t n : Int) (s : ByteArray) (w : World) :
    Calls Try.prog 10 #[.agg #[.int .i64 t, .int .i64 n, .string s]] w fun e w' => e = .returned (.bool (V.may t n s.data.toList)) ∧ Below w.heap.size w w' := by
  have Q := eql_val
  by_cases h0 : t = 0
  · subst h0
    rw [may0]
    go_enter Try.func10, Try.ntmps10
    go_wp2
    go_ret
    exact ⟨rfl, (Below.refl _ _).alloc (Nat.le_refl _) _⟩
  · by_cases h1 : t = 1
    · subst h1
      rw [may1]
      go_enter Try.func10, Try.ntmps10
      go_wp2
      go_ret
      exact ⟨rfl, (Below.refl _ _).alloc (Nat.le_refl _) _⟩
    · by_cases h2 : t = 2
      · subst h2
        rw [may2]
        cases g : same 2 n s 2 0 s
        · go_enter Try.func10, Try.ntmps10
          go_wp2
          go_ret
          exact ⟨rfl, (Below.refl _ _).alloc (Nat.le_refl _) _⟩
        · rw [size16]
          go_enter Try.func10, Try.ntmps10
          go_wp2
          go_ret
          exact ⟨rfl, (Below.refl _ _).alloc (Nat.le_refl _) _⟩
      · by_cases h3 : t = 3
        · subst h3
          rw [may3]
          cases g : same 3 n s 3 0 ⟨#[]⟩
          · go_enter Try.func10, Try.ntmps10
            go_wp2
            go_ret
            exact ⟨rfl, (Below.refl _ _).alloc (Nat.le_refl _) _⟩
          · go_enter Try.func10, Try.ntmps10
            go_wp2
            go_ret
            exact ⟨rfl, (Below.refl _ _).alloc (Nat.le_refl _) _⟩
        · rw [may_no h0 h1 h2 h3]
          go_enter Try.func10, Try.ntmps10
          go_wp2
          go_ret
          exact ⟨rfl, (Below.refl _ _).alloc (Nat.le_refl _) _⟩

theorem nil_bool (s : ByteArray) : (s.toList == []) = decide (s.data = #[]) := by
  rw [ByteArray.toList_eq]; cases h : s.data with | mk l => cases l <;> simp

theorem nil_list (s : ByteArray) : decide (s.data.toList = []) = decide (s.data = #[]) := by cases h : s.data with | mk l => cases l <;> simp

theorem rmay_any (t n : Int) (s : ByteArray) (w : World) :
    Calls Try.prog 11 #[.agg #[.int .i64 t, .int .i64 n, .string s]] w fun e w' => e = .returned (.bool (V.may t n s.data.toList)) ∧ Below w.heap.size w w' := by
  have hs := nil_bool s
  by_cases h0 : t = 0
  · subst h0
    rw [V.may, if_pos rfl, nil_list]
    by_cases hn : n = 0
    · subst hn
      go_enter Try.func11, Try.ntmps11
      go_wp2
      go_ret
      exact ⟨rfl, (Below.refl _ _).alloc (Nat.le_refl _) _⟩
    · rw [decide_eq_false hn]
      go_enter Try.func11, Try.ntmps11
      go_wp2
      go_ret
      exact ⟨rfl, (Below.refl _ _).alloc (Nat.le_refl _) _⟩
  · by_cases h1 : t = 1
    · subst h1
      rw [V.may, if_neg (by decide), if_pos rfl, nil_list]
      go_enter Try.func11, Try.ntmps11
      go_wp2
      go_ret
      exact ⟨rfl, (Below.refl _ _).alloc (Nat.le_refl _) _⟩
    · by_cases h2 : t = 2
      · subst h2
        have hz : s.data.toList.length = s.size := by simp
        rw [V.may, if_neg (by decide), if_neg (by decide), if_pos rfl, hz]
        by_cases hn : n = 0
        · subst hn
          rw [size16]
          go_enter Try.func11, Try.ntmps11
          go_wp2
          go_ret
          exact ⟨rfl, (Below.refl _ _).alloc (Nat.le_refl _) _⟩
        · rw [decide_eq_false hn]
          go_enter Try.func11, Try.ntmps11
          go_wp2
          go_ret
          exact ⟨rfl, (Below.refl _ _).alloc (Nat.le_refl _) _⟩
      · by_cases h3 : t = 3
        · subst h3
          rw [V.may, if_neg (by decide), if_neg (by decide), if_neg (by decide), if_pos rfl, nil_list]
          by_cases hn : n = 0
          · subst hn
            go_enter Try.func11, Try.ntmps11
            go_wp2
            go_ret
            exact ⟨rfl, (Below.refl _ _).alloc (Nat.le_refl _) _⟩
          · by_cases hm : n = 1
            · subst hm
              go_enter Try.func11, Try.ntmps11
              go_wp2
              go_ret
              exact ⟨rfl, (Below.refl _ _).alloc (Nat.le_refl _) _⟩
            · rw [decide_eq_false (show ¬ (n = 0 ∨ n = 1) by omega)]
              go_enter Try.func11, Try.ntmps11
              go_wp2
              go_ret
              exact ⟨rfl, (Below.refl _ _).alloc (Nat.le_refl _) _⟩
        · rw [may_no h0 h1 h2 h3]
          go_enter Try.func11, Try.ntmps11
          go_wp2
          go_ret
          exact ⟨rfl, (Below.refl _ _).alloc (Nat.le_refl _) _⟩

end Go.Proofs.Ytepgefjehnjibaa
