/-
  The law PackOrder, walked: of two numbers, and of two texts, the lower one's string is the lower one.
-/
import Derived.Test.YtkgdcomaphgjaaaPackBackW
namespace Go.Proofs.Ytkgdcomaphgjaaa
open Go.RowKit

theorem order_int {x y : Int} (hx : -9223372036854775808 ≤ x) (hx' : x ≤ 9223372036854775807) (hy : -9223372036854775808 ≤ y) (hy' : y ≤ 9223372036854775807) :
    Op.bytesLess (M.hiB 8 (up x)) (M.hiB 8 (up y)) = decide (x < y) := by
  have h1 := up_lt hx hx'
  have h2 := up_lt hy hy'
  have hp : 256 ^ 8 = 18446744073709551616 := by decide
  rw [M.hiB_less, hp, Nat.mod_eq_of_lt h1, Nat.mod_eq_of_lt h2]
  apply decide_eq_decide.2
  unfold up
  omega

theorem order_num {p q : Nat} (hp : p < 4294967296) (hq : q < 4294967296) : Op.bytesLess (M.hiB 4 p) (M.hiB 4 q) = decide ((p : Int) < (q : Int)) := by
  have h4 : 256 ^ 4 = 4294967296 := by decide
  rw [M.hiB_less, h4, Nat.mod_eq_of_lt hp, Nat.mod_eq_of_lt hq]
  apply decide_eq_decide.2
  omega

theorem order_text (a b : ByteArray) : Op.bytesLess (M.text a.data.toList) (M.text b.data.toList) = Op.bytesLess a.toList b.toList := by
  rw [M.text_less', ByteArray.toList_eq, ByteArray.toList_eq]

set_option maxRecDepth 100000 in
set_option maxHeartbeats 1000000 in
theorem packOrder_walk (x y : Int) (a b : ByteArray) (w : World) (hx : -9223372036854775808 ≤ x) (hx' : x ≤ 9223372036854775807) (hy : -9223372036854775808 ≤ y) (hy' : y ≤ 9223372036854775807) (ha : a.size ≤ 35184372088832) (hb : b.size ≤ 35184372088832) :
    Calls Try.prog 7 #[.int .i64 x, .int .i64 y, .agg #[.string a, .string b]] w fun e w' => e = .returned (.bool true) ∧ Below w.heap.size w w' := by
  have hI0 := In1.start w a b 42
  have o1 := order_int hx hx' hy hy'
  have o3 := order_text a b
  go_enter Try.func7, Try.ntmps7
  go_wp2_with fail
  refine (awake_any _).mono ?_
  rintro e w1 ⟨rfl, hbn⟩
  have hI1 := hI0.step hbn
  clear hbn hI0
  have c0 := hI1.c0
  have c1 := hI1.c1
  go_wp2_with fail
  obtain ⟨p, hp⟩ : ∃ p : Nat, x % 4294967296 = p := ⟨(x % 4294967296).toNat, by omega⟩
  obtain ⟨q, hq⟩ : ∃ q : Nat, y % 4294967296 = q := ⟨(y % 4294967296).toNat, by omega⟩
  have hpl : p < 4294967296 := by omega
  have hql : q < 4294967296 := by omega
  rw [hp, hq]
  clear hp hq
  have o2 := order_num hpl hql
  go_region_held3 (fun w' => w'.cell? ⟨w.heap.size, 0, none⟩ = some (.string a) ∧ w'.cell? ⟨w.heap.size, 1, none⟩ = some (.string b)) (go_keep)
    (first | (go_at_call_of 12 (Value.int IntKind.i64 x); refine (int_any x _ hx hx').mono ?_; rintro e w2 ⟨rfl, hbn⟩; have hI2 := hI1.drew.step hbn; have c0 := hI2.c0; have c1 := hI2.c1) | (go_at_call_of 12 (Value.int IntKind.i64 y); refine (int_any y _ hy hy').mono ?_; rintro e w3 ⟨rfl, hbn⟩; have hI3 := hI2.step hbn; have c0 := hI3.c0; have c1 := hI3.c1) | (go_at_call_of 10 (Value.int IntKind.u32 (p : Int)); refine (num_any p _ hpl).mono ?_; rintro e w4 ⟨rfl, hbn⟩; have hI4 := hI3.step hbn; have c0 := hI4.c0; have c1 := hI4.c1) | (go_at_call_of 10 (Value.int IntKind.u32 (q : Int)); refine (num_any q _ hql).mono ?_; rintro e w5 ⟨rfl, hbn⟩; have hI5 := hI4.step hbn; have c0 := hI5.c0; have c1 := hI5.c1) | (go_at_call_of 14 (Value.string a); refine (text_any a _ ha).mono ?_; rintro e w6 ⟨rfl, hbn⟩; have hI6 := hI5.step hbn; have c0 := hI6.c0; have c1 := hI6.c1) | (go_at_call_of 14 (Value.string b); refine (text_any b _ hb).mono ?_; rintro e w7 ⟨rfl, hbn⟩; have hI7 := hI6.step hbn; have c0 := hI7.c0; have c1 := hI7.c1))
  go_wp2
  go_ret
  exact ⟨rfl, hI7.bel⟩

end Go.Proofs.Ytkgdcomaphgjaaa
