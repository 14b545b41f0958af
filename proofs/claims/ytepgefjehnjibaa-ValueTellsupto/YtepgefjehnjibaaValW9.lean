/-
  Walks of layer value: the law's own example holds.
-/
import Derived.Test.YtepgefjehnjibaaValW8
namespace Go.Proofs.Ytepgefjehnjibaa
open Go.RowKit

theorem put_eg (w : World) : Calls Try.prog 12 #[.agg #[.int .i64 2, .int .i64 0, .string ⟨#[97, 98]⟩]] w fun e w' => e = .returned (.string ⟨#[2, 97, 98, 0, 1]⟩) ∧ Below w.heap.size w w' := by
  have := put_any 2 0 ⟨#[97, 98]⟩ w (by decide) (by decide) (by decide)
  rwa [show V.put 2 0 (⟨#[97, 98]⟩ : ByteArray).data.toList = [2, 97, 98, 0, 1] by decide +kernel] at this
theorem take_eg (w : World) : Calls Try.prog 16 #[.string ⟨#[2, 97, 98, 0, 1, 122]⟩] w fun e w' => e = .returned (.tuple #[.agg #[.int .i64 2, .int .i64 0, .string ⟨#[97, 98]⟩], .string ⟨#[122]⟩, .int .i64 0]) ∧ Below w.heap.size w w' := by
  have := take_any ⟨#[2, 97, 98, 0, 1, 122]⟩ w (by decide)
  rwa [show V.take (⟨#[2, 97, 98, 0, 1, 122]⟩ : ByteArray).data.toList = some (2, 0, [97, 98], [122]) by decide +kernel, tkV] at this
theorem may_eg (w : World) : Calls Try.prog 10 #[.agg #[.int .i64 2, .int .i64 0, .string ⟨#[97, 98]⟩]] w fun e w' => e = .returned (.bool true) ∧ Below w.heap.size w w' := by
  have := may_any 2 0 ⟨#[97, 98]⟩ w
  rwa [show V.may 2 0 (⟨#[97, 98]⟩ : ByteArray).data.toList = true by decide +kernel] at this
theorem compare_eg (w : World) : Calls Try.prog 14 #[.agg #[.int .i64 1, .int .i64 9, .string ⟨#[]⟩], .agg #[.int .i64 2, .int .i64 0, .string ⟨#[97, 98]⟩]] w fun e w' => e = .returned (.int .i64 (-1)) ∧ Below w.heap.size w w' := by
  have := compare_any 1 9 ⟨#[]⟩ 2 0 ⟨#[97, 98]⟩ w
  rwa [show V.cmp 1 9 (⟨#[]⟩ : ByteArray).data.toList 2 0 (⟨#[97, 98]⟩ : ByteArray).data.toList = -1 by decide +kernel] at this

/-- a value that the caller keeps in a block -/
structure Kv (w : World) (p : Nat) (t n : Int) (s : ByteArray) (wr : World) : Prop where
  bel : Below w.heap.size w wr
  pl : p < wr.heap.size
  c0 : wr.cell? ⟨p, 0, none⟩ = some (.int .i64 t)
  c1 : wr.cell? ⟨p, 1, none⟩ = some (.int .i64 n)
  c2 : wr.cell? ⟨p, 2, none⟩ = some (.string s)

theorem Kv.start (w : World) (t n : Int) (s : ByteArray) : Kv w w.heap.size t n s (w.alloc (.cells #[.int .i64 t, .int .i64 n, .string s] 23)) :=
  ⟨(Below.refl _ _).alloc (Nat.le_refl _) _, by simp, by simp, by simp, by simp⟩

theorem Kv.new {w wr : World} (h : Below w.heap.size w wr) (t n : Int) (s : ByteArray) : Kv w wr.heap.size t n s (wr.alloc (.cells #[.int .i64 t, .int .i64 n, .string s] 23)) :=
  ⟨h.alloc h.size _, by simp, by simp, by simp, by simp⟩

theorem Kv.step {w wr w' : World} {p : Nat} {t n : Int} {s : ByteArray} (h : Kv w p t n s wr) (hb : Below wr.heap.size wr w') : Kv w p t n s w' :=
  have z := h.bel.size
  have y := hb.size
  ⟨h.bel.trans (hb.mono z), Nat.lt_of_lt_of_le h.pl y, (hb.cell h.pl).trans h.c0, (hb.cell h.pl).trans h.c1, (hb.cell h.pl).trans h.c2⟩

theorem Kv.alloc {w wr : World} {p : Nat} {t n : Int} {s : ByteArray} (h : Kv w p t n s wr) (o : Obj) : Kv w p t n s (wr.alloc o) := h.step ((Below.refl _ _).alloc (Nat.le_refl _) o)

theorem Kv.drew {w wr : World} {p : Nat} {t n : Int} {s : ByteArray} (h : Kv w p t n s wr) : Kv w p t n s wr.drew := ⟨h.bel.drew, h.pl, h.c0, h.c1, h.c2⟩

set_option maxRecDepth 100000 in
set_option maxHeartbeats 1000000 in
theorem awake_any (w : World) : Calls Try.prog 9 #[] w fun e w' => e = .returned (.bool true) ∧ Below w.heap.size w w' := by
  have Q := eql_val
  have hsame := same_self 2 0 ⟨#[97, 98]⟩
  have I0 := Kv.start w 2 0 ⟨#[97, 98]⟩
  go_enter Try.func9, Try.ntmps9
  go_wp2_with fail
  refine (put_eg _).mono ?_
  rintro e w1 ⟨rfl, hb⟩
  have I1 := I0.step hb
  clear I0 hb
  go_wp2_with fail
  rw [show (⟨#[2, 97, 98, 0, 1]⟩ : ByteArray) ++ ⟨#[122]⟩ = ⟨#[2, 97, 98, 0, 1, 122]⟩ from ba_append [2, 97, 98, 0, 1] [122]]
  refine (take_eg _).mono ?_
  rintro e w2 ⟨rfl, hb⟩
  have I2 := (I1.step hb).alloc (.cells #[.int .i64 2, .int .i64 0, .string ⟨#[97, 98]⟩] 23)
  have J2 := Kv.new (I1.step hb).bel 2 0 ⟨#[97, 98]⟩
  obtain ⟨_, pl, c0, c1, c2⟩ := id (I1.step hb)
  generalize w.heap.size = p at I2 c0 c1 c2 pl
  clear I1 hb
  go_wp2_with fail
  refine (may_eg _).mono ?_
  rintro e w3 ⟨rfl, hb⟩
  have I3 := I2.step hb
  have J3 := J2.step hb
  clear I2 J2 hb c0 c1 c2 pl
  generalize w2.heap.size = q at J3
  obtain ⟨_, _, c0, c1, c2⟩ := id I3
  obtain ⟨_, _, d0, d1, d2⟩ := id J3
  go_wp2_with fail
  refine (compare_eg _).mono ?_
  rintro e w4 ⟨rfl, hb⟩
  have I4 := I3.step hb
  clear I3 J3 hb
  go_wp2_with fail
  go_ret
  exact ⟨rfl, I4.bel⟩

end Go.Proofs.Ytepgefjehnjibaa
