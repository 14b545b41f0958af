/-
  The law ValueTells, walked: whether any value may be, its string, and which of any two is ahead, as the document has it.
-/
import Derived.Test.YtepgefjehnjibaaValW9
namespace Go.Proofs.Ytepgefjehnjibaa
open Go.RowKit

theorem In2.all {w wr : World} {p q : Nat} {t n t' n' : Int} {s s' : ByteArray} (h : In2 w p q t n s t' n' s' wr) : wr.cell? ⟨p, 0, none⟩ = some (.int .i64 t) ∧ wr.cell? ⟨p, 1, none⟩ = some (.int .i64 n) ∧ wr.cell? ⟨p, 2, none⟩ = some (.string s) ∧
    wr.cell? ⟨q, 0, none⟩ = some (.int .i64 t') ∧ wr.cell? ⟨q, 1, none⟩ = some (.int .i64 n') ∧ wr.cell? ⟨q, 2, none⟩ = some (.string s') :=
  ⟨h.c0, h.c1, h.c2, h.d0, h.d1, h.d2⟩

set_option maxRecDepth 100000 in
set_option maxHeartbeats 4000000 in
theorem valueTells_walk (t n : Int) (s : ByteArray) (t' n' : Int) (s' : ByteArray) (w : World) (n0 : -9223372036854775808 ≤ n) (n1 : n ≤ 9223372036854775807) (hs : s.size ≤ 1048576) :
    Calls Try.prog 3 #[.agg #[.int .i64 t, .int .i64 n, .string s], .agg #[.int .i64 t', .int .i64 n', .string s']] w fun e w' => e = .returned (.bool true) ∧ Below w.heap.size w w' := by
  have I0 := In2.start w t n s t' n' s'
  have H1 := Lib.hid (fun w => may_any t n s w)
  have H2 := Lib.hid (fun w => rmay_any t n s w)
  have H3 := Lib.hid (fun w => put_any t n s w n0 n1 (by omega))
  have H4 := Lib.hid (fun w => rput_any t n s w n0 n1 (by omega))
  have H5 := Lib.hid (fun w => compare_any t n s t' n' s' w)
  have H6 := Lib.hid (fun w => rcompare_any t n s t' n' s' w)
  obtain ⟨m, hm⟩ : ∃ m, m = V.may t n s.data.toList := ⟨_, rfl⟩
  obtain ⟨X, hX⟩ : ∃ X : ByteArray, X = ⟨(V.put t n s.data.toList).toArray⟩ := ⟨_, rfl⟩
  obtain ⟨c, hc⟩ : ∃ c, c = V.cmp t n s.data.toList t' n' s'.data.toList := ⟨_, rfl⟩
  rw [← hm] at H1 H2
  rw [← hX] at H3 H4
  rw [← hc] at H5 H6
  clear hm hX hc n0 n1 hs
  go_enter Try.func3, Try.ntmps3
  go_wp2_with fail
  refine (awake_any _).mono ?_
  rintro e w1 ⟨rfl, hb⟩
  have I1 := I0.step hb
  clear I0 hb
  generalize w.heap.size + 1 = q at I1
  generalize w.heap.size = p at I1
  obtain ⟨c0, c1, c2, d0, d1, d2⟩ := I1.all
  go_wp2_with fail
  go_region_held3 (fun w' => w'.cell? ⟨p, 0, none⟩ = some (.int .i64 t) ∧ w'.cell? ⟨p, 1, none⟩ = some (.int .i64 n) ∧ w'.cell? ⟨p, 2, none⟩ = some (.string s) ∧ w'.cell? ⟨q, 0, none⟩ = some (.int .i64 t') ∧ w'.cell? ⟨q, 1, none⟩ = some (.int .i64 n') ∧ w'.cell? ⟨q, 2, none⟩ = some (.string s'))
    (first | assumption | go_keep)
    (first
      | (go_at_call 10; (with_reducible refine (H1.out _).mono ?_); rintro e w2 ⟨rfl, hbn⟩; have hI2 := I1.drew.step hbn; have hA := hI2.all)
      | (go_at_call 11; (with_reducible refine (H2.out _).mono ?_); rintro e w3 ⟨rfl, hbn⟩; have hI3 := hI2.step hbn; have hA := hI3.all)
      | (go_at_call 12; (with_reducible refine (H3.out _).mono ?_); rintro e w4 ⟨rfl, hbn⟩; have hI4 := hI3.step hbn; have hA := hI4.all)
      | (go_at_call 13; (with_reducible refine (H4.out _).mono ?_); rintro e w5 ⟨rfl, hbn⟩; have hI5 := hI4.step hbn; have hA := hI5.all)
      | (go_at_call 14; (with_reducible refine (H5.out _).mono ?_); rintro e w6 ⟨rfl, hbn⟩; have hI6 := hI5.step hbn; have hA := hI6.all)
      | (go_at_call 15; (with_reducible refine (H6.out _).mono ?_); rintro e w7 ⟨rfl, hbn⟩; have hI7 := hI6.step hbn; have hA := hI7.all))
  all_goals (try go_wp2)
  all_goals go_ret
  all_goals exact ⟨rfl, hI7.bel⟩

end Go.Proofs.Ytepgefjehnjibaa
