/-
  The law PackBack, walked: what was packed is taken, whatever stands behind.
-/
import Derived.Test.YtkgdcomaphgjaaaPackW8
import Derived.Deep.RegionHeld3
import Derived.Lib.SmallJoins
namespace Go.Proofs.Ytkgdcomaphgjaaa
open Go.RowKit

/-- the law's own block of two strings lies as it was laid; nothing older has turned -/
structure In1 (w : World) (a b : ByteArray) (wr : World) : Prop where
  bel : Below w.heap.size w wr
  big : w.heap.size + 1 ≤ wr.heap.size
  c0 : wr.cell? ⟨w.heap.size, 0, none⟩ = some (.string a)
  c1 : wr.cell? ⟨w.heap.size, 1, none⟩ = some (.string b)

theorem In1.start (w : World) (a b : ByteArray) (t : TypeId) : In1 w a b (w.alloc (.cells #[.string a, .string b] t)) :=
  ⟨(Below.refl _ _).alloc (Nat.le_refl _) _, by simp, by simp, by simp⟩

theorem In1.step {w wr w' : World} {a b : ByteArray} (h : In1 w a b wr) (hb : Below wr.heap.size wr w') : In1 w a b w' :=
  have hz := h.big
  ⟨h.bel.trans (hb.mono (by omega)), Nat.le_trans h.big hb.size, (hb.cell (by show w.heap.size < _; omega)).trans h.c0, (hb.cell (by show w.heap.size < _; omega)).trans h.c1⟩

theorem In1.drew {w wr : World} {a b : ByteArray} (h : In1 w a b wr) : In1 w a b wr.drew := ⟨h.bel.drew, h.big, h.c0, h.c1⟩

theorem bytes_eta (s : ByteArray) : (⟨s.data.toList.toArray⟩ : ByteArray) = s := by cases s; simp

theorem takeNum_back (n : Nat) (y : ByteArray) (w : World) (hn : n < 4294967296) (hy : y.size ≤ 35184372088832) :
    Calls Try.prog 16 #[.string ((⟨(M.hiB 4 n).toArray⟩ : ByteArray) ++ y)] w fun e w' => e = .returned (.tuple #[.int .u32 n, .string y, .int .i64 0]) ∧ Below w.heap.size w w' := by
  have hl : ((⟨(M.hiB 4 n).toArray⟩ : ByteArray) ++ y).data.toList = M.hiB 4 n ++ y.data.toList := by rw [Joins.data_append]
  have hz : ((⟨(M.hiB 4 n).toArray⟩ : ByteArray) ++ y).size = 4 + y.size := by
    have h1 : ((⟨(M.hiB 4 n).toArray⟩ : ByteArray) ++ y).data.toList.length = ((⟨(M.hiB 4 n).toArray⟩ : ByteArray) ++ y).size := by rw [Array.length_toList]; rfl
    rw [← h1, hl, List.length_append, M.hiB_len]; simp
  have h := takeNum_any ((⟨(M.hiB 4 n).toArray⟩ : ByteArray) ++ y) w (by unfold maxLen; omega)
  have e : tnV (M.hiB 4 n ++ y.data.toList) = .tuple #[.int .u32 n, .string y, .int .i64 0] := by
    have h4 := M.hiB_len 4 n
    rw [tnV, if_neg (by simp [h4]), List.take_left' h4, List.drop_left' h4, M.num_hiB, Nat.mod_eq_of_lt (by omega), bytes_eta]
  rw [hl, e] at h
  exact h

theorem takeInt_back (x : Int) (y : ByteArray) (w : World) (h0 : -9223372036854775808 ≤ x) (h1 : x ≤ 9223372036854775807) (hy : y.size ≤ 35184372088832) :
    Calls Try.prog 18 #[.string ((⟨(M.hiB 8 (up x)).toArray⟩ : ByteArray) ++ y)] w fun e w' => e = .returned (.tuple #[.int .i64 x, .string y, .int .i64 0]) ∧ Below w.heap.size w w' := by
  have hl : ((⟨(M.hiB 8 (up x)).toArray⟩ : ByteArray) ++ y).data.toList = M.hiB 8 (up x) ++ y.data.toList := by rw [Joins.data_append]
  have hz : ((⟨(M.hiB 8 (up x)).toArray⟩ : ByteArray) ++ y).size = 8 + y.size := by
    have h1 : ((⟨(M.hiB 8 (up x)).toArray⟩ : ByteArray) ++ y).data.toList.length = ((⟨(M.hiB 8 (up x)).toArray⟩ : ByteArray) ++ y).size := by rw [Array.length_toList]; rfl
    rw [← h1, hl, List.length_append, M.hiB_len]; simp
  have h := takeInt_any ((⟨(M.hiB 8 (up x)).toArray⟩ : ByteArray) ++ y) w (by unfold maxLen; omega)
  have e : tiV (M.hiB 8 (up x) ++ y.data.toList) = .tuple #[.int .i64 x, .string y, .int .i64 0] := by
    have h8 := M.hiB_len 8 (up x)
    have hu := up_lt h0 h1
    have hp : 256 ^ 8 = 18446744073709551616 := by decide
    rw [tiV, if_neg (by simp [h8]), List.take_left' h8, List.drop_left' h8, M.num_hiB, hp, Nat.mod_eq_of_lt hu, bytes_eta]
    exact v_tup (by unfold up; omega)
  rw [hl, e] at h
  exact h

theorem takeText_back (a y : ByteArray) (w : World) (ha : a.size ≤ 35184372088832) (hy : y.size ≤ 35184372088832) :
    Calls Try.prog 20 #[.string ((⟨(M.text a.data.toList).toArray⟩ : ByteArray) ++ y)] w fun e w' => e = .returned (.tuple #[.string a, .string y, .int .i64 0]) ∧ Below w.heap.size w w' := by
  have hl : ((⟨(M.text a.data.toList).toArray⟩ : ByteArray) ++ y).data.toList = M.text a.data.toList ++ y.data.toList := by rw [Joins.data_append]
  have hz : ((⟨(M.text a.data.toList).toArray⟩ : ByteArray) ++ y).size ≤ 2 * a.size + 2 + y.size := by
    have h1 : ((⟨(M.text a.data.toList).toArray⟩ : ByteArray) ++ y).data.toList.length = ((⟨(M.text a.data.toList).toArray⟩ : ByteArray) ++ y).size := by rw [Array.length_toList]; rfl
    have h2 := M.text_len a.data.toList
    rw [← h1, hl, List.length_append]
    simp at h2 ⊢
    omega
  have h := takeText_any ((⟨(M.text a.data.toList).toArray⟩ : ByteArray) ++ y) w (by omega)
  have e : M.ttake [] false (M.text a.data.toList ++ y.data.toList) = some (a.data.toList, y.data.toList) := by
    have := M.ttake_text [] a.data.toList y.data.toList
    simpa [M.text] using this
  rw [hl, e, ttV, bytes_eta, bytes_eta] at h
  exact h

set_option maxRecDepth 100000 in
set_option maxHeartbeats 1000000 in
theorem packBack_walk (n : Nat) (x : Int) (a y : ByteArray) (w : World) (hn : n < 4294967296) (h0 : -9223372036854775808 ≤ x) (h1 : x ≤ 9223372036854775807) (ha : a.size ≤ 35184372088832) (hy : y.size ≤ 35184372088832) :
    Calls Try.prog 5 #[.int .u32 n, .int .i64 x, .agg #[.string a, .string y]] w fun e w' => e = .returned (.bool true) ∧ Below w.heap.size w w' := by
  have hI0 := In1.start w a y 42
  have hta := M.text_len a.data.toList
  simp at hta
  have na : ¬ 9223372036854775807 < (M.text a.data.toList).length + y.size := by omega
  have nn : ¬ 9223372036854775807 < 4 + y.size := by omega
  have ni : ¬ 9223372036854775807 < 8 + y.size := by omega
  have l4 := M.hiB_len 4 n
  have l8 := M.hiB_len 8 (up x)
  go_enter Try.func5, Try.ntmps5
  go_wp2_with fail
  refine (awake_any _).mono ?_
  rintro e w1 ⟨rfl, hbn⟩
  have hI1 := hI0.step hbn
  clear hbn hI0
  have c1 := hI1.c1
  go_wp2_with fail
  go_region_held3 (fun w' => w'.cell? ⟨w.heap.size, 1, none⟩ = some (.string y)) (go_keep)
    (first | (go_at_call 10; refine (num_any n _ hn).mono ?_; rintro e w2 ⟨rfl, hbn⟩; have hI2 := hI1.drew.step hbn; have c1 := hI2.c1) | (go_at_call 16; refine (takeNum_back n y _ hn hy).mono ?_; rintro e w3 ⟨rfl, hbn⟩; have hI3 := hI2.step hbn; have c1 := hI3.c1))
  clear hI1 hI2
  go_wp2_with fail
  have d1 := hI3.c1
  go_region_held3 (fun w' => w'.cell? ⟨w.heap.size, 1, none⟩ = some (.string y)) (go_keep)
    (first | (go_at_call 12; refine (int_any x _ h0 h1).mono ?_; rintro e w4 ⟨rfl, hbn⟩; have hI4 := hI3.drew.step hbn; have c1 := hI4.c1) | (go_at_call 18; refine (takeInt_back x y _ h0 h1 hy).mono ?_; rintro e w5 ⟨rfl, hbn⟩; have hI5 := hI4.step hbn; have c1 := hI5.c1))
  clear hI3 hI4 d1
  go_wp2_with fail
  have d0 := hI5.c0
  have d1 := hI5.c1
  go_region_held3 (fun w' => w'.cell? ⟨w.heap.size, 0, none⟩ = some (.string a) ∧ w'.cell? ⟨w.heap.size, 1, none⟩ = some (.string y)) (go_keep)
    (first | (go_at_call 14; refine (text_any a _ ha).mono ?_; rintro e w6 ⟨rfl, hbn⟩; have hI6 := hI5.drew.step hbn; have c0 := hI6.c0; have c1 := hI6.c1) | (go_at_call 20; refine (takeText_back a y _ ha hy).mono ?_; rintro e w7 ⟨rfl, hbn⟩; have hI7 := hI6.step hbn; have c0 := hI7.c0; have c1 := hI7.c1))
  clear hI5 hI6 d0 d1
  have d0 := hI7.c0
  have d1 := hI7.c1
  go_wp2_with fail
  go_ret
  exact ⟨rfl, hI7.bel⟩

end Go.Proofs.Ytkgdcomaphgjaaa
