/-
  Walks of layer value: the value with which a string begins, as the document has it.
-/
import Derived.Test.YtepgefjehnjibaaValW9
namespace Go.Proofs.Ytepgefjehnjibaa
open Go.RowKit

/-- the call's own two blocks: the result's, and the value's that is put together -/
structure Tz (w : World) (p q : Nat) (x y z : Value) (wr : World) : Prop where
  tp : Tp w p wr
  pq : p < q
  q0 : q < wr.heap.size
  d0 : wr.cell? ⟨q, 0, none⟩ = some x
  d1 : wr.cell? ⟨q, 1, none⟩ = some y
  d2 : wr.cell? ⟨q, 2, none⟩ = some z
  g0 : wr.frozen? ⟨q, 0, none⟩ = false
  g1 : wr.frozen? ⟨q, 1, none⟩ = false
  g2 : wr.frozen? ⟨q, 2, none⟩ = false

theorem Tz.start (w : World) (x : Value) : Tz w w.heap.size (w.heap.size + 1) x (.int .i64 0) (.string ⟨#[]⟩) ((w.alloc (.cells #[.int .i64 0, .int .i64 0, .string ⟨#[]⟩] 23)).alloc (.cells #[x, .int .i64 0, .string ⟨#[]⟩] 23)) :=
  ⟨(Tp.start w).alloc _, Nat.lt_succ_self _, by simp, Joins.cell_alloc_mark_at _ _ _ (0, 0) _ 0 (by simp), Joins.cell_alloc_mark_at _ _ _ (0, 0) _ 1 (by simp), Joins.cell_alloc_mark_at _ _ _ (0, 0) _ 2 (by simp), by simp, by simp, by simp⟩

theorem Tz.step {w wr w' : World} {p q : Nat} {x y z : Value} (h : Tz w p q x y z wr) (hb : Below wr.heap.size wr w') : Tz w p q x y z w' :=
  ⟨h.tp.step hb, h.pq, Nat.lt_of_lt_of_le h.q0 hb.size, (hb.cell h.q0).trans h.d0, (hb.cell h.q0).trans h.d1, (hb.cell h.q0).trans h.d2, (hb.frozen h.q0).trans h.g0, (hb.frozen h.q0).trans h.g1, (hb.frozen h.q0).trans h.g2⟩

theorem off_ne (q : Nat) {k j : Nat} (h : k ≠ j) : (⟨q, k, none⟩ : Addr) ≠ ⟨q, j, none⟩ := fun e => by cases e; exact h rfl

theorem Tz.set1 {w wr : World} {p q : Nat} {x y z : Value} (h : Tz w p q x y z wr) (v : Value) : Tz w p q x v z (wr.setCell ⟨q, 1, none⟩ v) :=
  ⟨h.tp.set q 1 h.pq v, h.pq, by have := h.q0; simpa [World.setCell] using this, (World.cell?_setCell_other wr _ _ v (off_ne q (by decide))).trans h.d0, World.cell?_setCell_same wr _ v h.d1, (World.cell?_setCell_other wr _ _ v (off_ne q (by decide))).trans h.d2,
    by rw [World.frozen?_setCell]; exact h.g0, by rw [World.frozen?_setCell]; exact h.g1, by rw [World.frozen?_setCell]; exact h.g2⟩

theorem Tz.set2 {w wr : World} {p q : Nat} {x y z : Value} (h : Tz w p q x y z wr) (v : Value) : Tz w p q x y v (wr.setCell ⟨q, 2, none⟩ v) :=
  ⟨h.tp.set q 2 h.pq v, h.pq, by have := h.q0; simpa [World.setCell] using this, (World.cell?_setCell_other wr _ _ v (off_ne q (by decide))).trans h.d0, (World.cell?_setCell_other wr _ _ v (off_ne q (by decide))).trans h.d1, World.cell?_setCell_same wr _ v h.d2,
    by rw [World.frozen?_setCell]; exact h.g0, by rw [World.frozen?_setCell]; exact h.g1, by rw [World.frozen?_setCell]; exact h.g2⟩

theorem rtake_nil (w : World) :
    Calls Try.prog 17 #[.string ⟨#[]⟩] w fun e w' => e = .returned (tkV none) ∧ Below w.heap.size w w' := by
  go_enter Try.func17, Try.ntmps17
  go_wp2
  refine bodyPost_ret (results_val rfl _ _ w.heap.size (.int .i64 0) (.int .i64 0) (.string ⟨#[]⟩) rfl (by simp) (by simp) (by simp)) rfl ?_
  exact ⟨rfl, (Below.refl _ _).alloc (Nat.le_refl _) _⟩

def tkB (m : Bool) (t n : Int) (g h : ByteArray) : Value := if m = true then .tuple #[.agg #[.int .i64 t, .int .i64 n, .string g], .string h, .int .i64 0] else tkV none

set_option maxRecDepth 100000 in
set_option maxHeartbeats 2000000 in
theorem rtake_other (s : ByteArray) (c : UInt8) (r : List UInt8) (w : World) (h : s.data.toList = c :: r) (hs : s.size ≤ 140737488351232) (n1 : ¬ c.toNat = 1) (n2 : ¬ c.toNat = 2) (n3 : ¬ c.toNat = 3) :
    Calls Try.prog 17 #[.string s] w fun e w' => e = .returned (tkB (V.may (c.toNat : Int) 0 []) (c.toNat : Int) 0 ⟨#[]⟩ ⟨r.toArray⟩) ∧ Below w.heap.size w w' := by
  have h0 : 0 < s.size := by have := size_of h; omega
  have hf := first_at h h0
  have hx := rest_of h
  have hne : (s.toList == []) = false := by rw [ByteArray.toList_eq, h]; rfl
  have hw := wrap_byte c
  have b1 : ((c.toNat : Int) == 1) = false := byte_bool' 1 n1
  have b2 : ((c.toNat : Int) == 2) = false := byte_bool' 2 n2
  have b3 : ((c.toNat : Int) == 3) = false := byte_bool' 3 n3
  have HM := Lib.hid (fun w => rmay_any (c.toNat : Int) 0 ⟨#[]⟩ w)
  rw [show (⟨#[]⟩ : ByteArray).data.toList = [] from rfl] at HM
  have I0 := Tz.start w (.int .i64 (c.toNat : Int))
  cases hm : V.may (c.toNat : Int) 0 []
  · rw [hm] at HM
    go_enter Try.func17, Try.ntmps17
    go_wp2_with fail
    refine (HM.out _).mono ?_
    rintro e w1 ⟨rfl, hb⟩
    have I1 := I0.step hb
    clear I0 hb
    generalize w.heap.size + 1 = q at I1
    generalize w.heap.size = p at I1
    obtain ⟨⟨_, p0, pl, c0, c1, c2, f0, f1, f2⟩, pq, q0, d0, d1, d2, g0, g1, g2⟩ := id I1
    go_wp2_with fail
    obtain ⟨z0, z1, z2, zb⟩ := I1.tp.fin (.int .i64 0) (.int .i64 0) (.string ⟨#[]⟩)
    refine bodyPost_ret (results_val rfl _ _ p (.int .i64 0) (.int .i64 0) (.string ⟨#[]⟩) rfl z0 z1 z2) rfl ?_
    exact ⟨rfl, zb⟩
  · rw [hm] at HM
    go_enter Try.func17, Try.ntmps17
    go_wp2_with fail
    refine (HM.out _).mono ?_
    rintro e w1 ⟨rfl, hb⟩
    have I1 := I0.step hb
    clear I0 hb
    generalize w.heap.size + 1 = q at I1
    generalize w.heap.size = p at I1
    obtain ⟨⟨_, p0, pl, c0, c1, c2, f0, f1, f2⟩, pq, q0, d0, d1, d2, g0, g1, g2⟩ := id I1
    go_wp2_with fail
    obtain ⟨z0, z1, z2, zb⟩ := I1.tp.fin (.int .i64 (c.toNat : Int)) (.int .i64 0) (.string ⟨#[]⟩)
    refine bodyPost_ret (results_val rfl _ _ p (.int .i64 (c.toNat : Int)) (.int .i64 0) (.string ⟨#[]⟩) rfl z0 z1 z2) rfl ?_
    exact ⟨rfl, zb⟩

end Go.Proofs.Ytepgefjehnjibaa
