/-
  The law PackBehind, walked: of two texts that are unlike the lower one's string is the lower one, whatever stands behind both.
-/
import Derived.Test.YtkgdcomaphgjaaaPackW8
import Derived.Deep.RegionHeld3
import Derived.Lib.SmallJoins
namespace Go.Proofs.Ytkgdcomaphgjaaa
open Go.RowKit

/-- the law's own two blocks, each of two strings, lie as they were laid; nothing older has turned -/
structure In2 (w : World) (a b x y : ByteArray) (wr : World) : Prop where
  bel : Below w.heap.size w wr
  big : w.heap.size + 2 ≤ wr.heap.size
  c0 : wr.cell? ⟨w.heap.size, 0, none⟩ = some (.string a)
  c1 : wr.cell? ⟨w.heap.size, 1, none⟩ = some (.string b)
  c2 : wr.cell? ⟨w.heap.size + 1, 0, none⟩ = some (.string x)
  c3 : wr.cell? ⟨w.heap.size + 1, 1, none⟩ = some (.string y)

theorem In2.start (w : World) (a b x y : ByteArray) (t : TypeId) : In2 w a b x y ((w.alloc (.cells #[.string a, .string b] t)).alloc (.cells #[.string x, .string y] t)) :=
  ⟨((Below.refl _ _).alloc (Nat.le_refl _) _).alloc (by simp) _, by simp, by simp, by simp, by simp, by simp⟩

theorem In2.step {w wr w' : World} {a b x y : ByteArray} (h : In2 w a b x y wr) (hb : Below wr.heap.size wr w') : In2 w a b x y w' :=
  have hz := h.big
  ⟨h.bel.trans (hb.mono (by omega)), Nat.le_trans h.big hb.size, (hb.cell (by show w.heap.size < _; omega)).trans h.c0, (hb.cell (by show w.heap.size < _; omega)).trans h.c1,
    (hb.cell (by show w.heap.size + 1 < _; omega)).trans h.c2, (hb.cell (by show w.heap.size + 1 < _; omega)).trans h.c3⟩

theorem In2.drew {w wr : World} {a b x y : ByteArray} (h : In2 w a b x y wr) : In2 w a b x y wr.drew := ⟨h.bel.drew, h.big, h.c0, h.c1, h.c2, h.c3⟩

theorem tl (a : ByteArray) : a.toList = a.data.toList := ByteArray.toList_eq a

theorem behind_eq {a b x y : ByteArray} (h : (a.toList == b.toList) = true) :
    (Op.bytesLess ((⟨(M.text a.data.toList).toArray⟩ : ByteArray) ++ x).toList ((⟨(M.text b.data.toList).toArray⟩ : ByteArray) ++ y).toList == Op.bytesLess x.toList y.toList) = true := by
  simp only [tl, Joins.data_append, beq_iff_eq] at h ⊢
  rw [M.text_less, if_pos h]

theorem behind_ne {a b x y : ByteArray} (h : (a.toList == b.toList) = false) :
    (Op.bytesLess ((⟨(M.text a.data.toList).toArray⟩ : ByteArray) ++ x).toList ((⟨(M.text b.data.toList).toArray⟩ : ByteArray) ++ y).toList == Op.bytesLess a.toList b.toList) = true := by
  rw [beq_eq_false_iff_ne] at h
  simp only [tl, Joins.data_append, beq_iff_eq] at h ⊢
  rw [M.text_less, if_neg h]

set_option maxRecDepth 100000 in
set_option maxHeartbeats 1000000 in
theorem packBehind_walk (a b x y : ByteArray) (w : World) (ha : a.size ≤ 35184372088832) (hb : b.size ≤ 35184372088832) (hx : x.size ≤ 35184372088832) (hy : y.size ≤ 35184372088832) :
    Calls Try.prog 8 #[.agg #[.string a, .string b], .agg #[.string x, .string y]] w fun e w' => e = .returned (.bool true) ∧ Below w.heap.size w w' := by
  have hI0 := In2.start w a b x y 42
  have hta := M.text_len a.data.toList
  have htb := M.text_len b.data.toList
  simp at hta htb
  have na : ¬ 9223372036854775807 < (M.text a.data.toList).length + x.size := by omega
  have nb : ¬ 9223372036854775807 < (M.text b.data.toList).length + y.size := by omega
  go_enter Try.func8, Try.ntmps8
  go_wp2_with fail
  refine (awake_any _).mono ?_
  rintro e w1 ⟨rfl, hbn⟩
  have hI1 := hI0.step hbn
  clear hbn hI0
  have c0 := hI1.c0
  have c1 := hI1.c1
  have c2 := hI1.c2
  have c3 := hI1.c3
  go_wp2_with fail
  go_region_held3 (fun w' => w'.cell? ⟨w.heap.size, 0, none⟩ = some (.string a) ∧ w'.cell? ⟨w.heap.size + 1, 0, none⟩ = some (.string x)) (go_keep)
    (first | (go_at_call 14; refine (text_any a _ ha).mono ?_; rintro e w2 ⟨rfl, hbn⟩; have hI2 := hI1.drew.step hbn; have c0 := hI2.c0; have c2 := hI2.c2))
  clear hI1 c1 c3 hbn
  rename_i hHeld
  clear hHeld
  go_wp2_with fail
  have c1 := hI2.c1
  have c3 := hI2.c3
  go_region_held3 (fun w' => w'.cell? ⟨w.heap.size, 1, none⟩ = some (.string b) ∧ w'.cell? ⟨w.heap.size + 1, 1, none⟩ = some (.string y)) (go_keep)
    (first | (go_at_call 14; refine (text_any b _ hb).mono ?_; rintro e w3 ⟨rfl, hbn⟩; have hI3 := hI2.drew.step hbn; have c1 := hI3.c1; have c3 := hI3.c3))
  clear hI2 hbn
  rename_i hHeld
  clear hHeld
  have d0 := hI3.c0
  have d2 := hI3.c2
  go_wp2_with fail
  · go_ret
    exact ⟨ret_v (v_bool (behind_eq ‹_›)), hI3.bel⟩
  · go_ret
    exact ⟨ret_v (v_bool (behind_ne ‹_›)), hI3.bel⟩

end Go.Proofs.Ytkgdcomaphgjaaa
