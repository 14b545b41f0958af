/-
  Walks of layer value: the value that may be with which a string begins, as the program tells it.
-/
import Derived.Test.YtepgefjehnjibaaValW7
namespace Go.Proofs.Ytepgefjehnjibaa
open Go.RowKit

def tkV : Option (Int × Int × List UInt8 × List UInt8) → Value
  | some (t, n, g, h) => .tuple #[.agg #[.int .i64 t, .int .i64 n, .string ⟨g.toArray⟩], .string ⟨h.toArray⟩, .int .i64 0]
  | none => .tuple #[.agg #[.int .i64 0, .int .i64 0, .string ⟨#[]⟩], .string ⟨#[]⟩, .int .i64 2]

/-- the block of the result, that the call made -/
structure Tp (w : World) (p : Nat) (wr : World) : Prop where
  bel : Below w.heap.size w wr
  p0 : w.heap.size ≤ p
  pl : p < wr.heap.size
  c0 : wr.cell? ⟨p, 0, none⟩ = some (.int .i64 0)
  c1 : wr.cell? ⟨p, 1, none⟩ = some (.int .i64 0)
  c2 : wr.cell? ⟨p, 2, none⟩ = some (.string ⟨#[]⟩)
  f0 : wr.frozen? ⟨p, 0, none⟩ = false
  f1 : wr.frozen? ⟨p, 1, none⟩ = false
  f2 : wr.frozen? ⟨p, 2, none⟩ = false

theorem Tp.start (w : World) : Tp w w.heap.size (w.alloc (.cells #[.int .i64 0, .int .i64 0, .string ⟨#[]⟩] 23)) :=
  ⟨(Below.refl _ _).alloc (Nat.le_refl _) _, Nat.le_refl _, by simp, by simp, by simp, by simp, by simp, by simp, by simp⟩

theorem Tp.step {w wr w' : World} {p : Nat} (h : Tp w p wr) (hb : Below wr.heap.size wr w') : Tp w p w' :=
  have z := h.bel.size
  have y := hb.size
  ⟨h.bel.trans (hb.mono z), h.p0, Nat.lt_of_lt_of_le h.pl y, (hb.cell h.pl).trans h.c0, (hb.cell h.pl).trans h.c1, (hb.cell h.pl).trans h.c2, (hb.frozen h.pl).trans h.f0, (hb.frozen h.pl).trans h.f1, (hb.frozen h.pl).trans h.f2⟩

theorem Tp.alloc {w wr : World} {p : Nat} (h : Tp w p wr) (o : Obj) : Tp w p (wr.alloc o) := h.step ((Below.refl _ _).alloc (Nat.le_refl _) o)

theorem Tp.drew {w wr : World} {p : Nat} (h : Tp w p wr) : Tp w p wr.drew := ⟨h.bel.drew, h.p0, h.pl, h.c0, h.c1, h.c2, h.f0, h.f1, h.f2⟩

theorem Tp.set {w wr : World} {p : Nat} (h : Tp w p wr) (q o : Nat) (hq : p < q) (v : Value) : Tp w p (wr.setCell ⟨q, o, none⟩ v) :=
  have nq : ∀ k, (⟨q, o, none⟩ : Addr) ≠ ⟨p, k, none⟩ := fun k e => by cases e; omega
  have hp := h.p0
  ⟨h.bel.setCell (by show _ ≤ q; omega) _, h.p0, by have := h.pl; simpa [World.setCell] using this, (World.cell?_setCell_other wr _ _ v (nq 0)).trans h.c0, (World.cell?_setCell_other wr _ _ v (nq 1)).trans h.c1, (World.cell?_setCell_other wr _ _ v (nq 2)).trans h.c2,
    by rw [World.frozen?_setCell]; exact h.f0, by rw [World.frozen?_setCell]; exact h.f1, by rw [World.frozen?_setCell]; exact h.f2⟩

theorem Tp.fin {w w4 : World} {p : Nat} (h : Tp w p w4) (y0 y1 y2 : Value) :
    (((w4.setCell ⟨p, 0, none⟩ y0).setCell ⟨p, 1, none⟩ y1).setCell ⟨p, 2, none⟩ y2).cell? ⟨p, 0, none⟩ = some y0 ∧
    (((w4.setCell ⟨p, 0, none⟩ y0).setCell ⟨p, 1, none⟩ y1).setCell ⟨p, 2, none⟩ y2).cell? ⟨p, 1, none⟩ = some y1 ∧
    (((w4.setCell ⟨p, 0, none⟩ y0).setCell ⟨p, 1, none⟩ y1).setCell ⟨p, 2, none⟩ y2).cell? ⟨p, 2, none⟩ = some y2 ∧
    Below w.heap.size w (((w4.setCell ⟨p, 0, none⟩ y0).setCell ⟨p, 1, none⟩ y1).setCell ⟨p, 2, none⟩ y2) := by
  obtain ⟨bel, p0, pl, c0, c1, c2, _⟩ := h
  have np : ∀ k j, k ≠ j → (⟨p, k, none⟩ : Addr) ≠ ⟨p, j, none⟩ := fun k j h e => by cases e; exact h rfl
  refine ⟨?_, ?_, ?_, ?_⟩
  · rw [World.cell?_setCell_other _ _ _ _ (np 2 0 (by decide)), World.cell?_setCell_other _ _ _ _ (np 1 0 (by decide)), World.cell?_setCell_same _ _ _ c0]
  · rw [World.cell?_setCell_other _ _ _ _ (np 2 1 (by decide)), World.cell?_setCell_same _ _ _ ((World.cell?_setCell_other _ _ _ _ (np 0 1 (by decide))).trans c1)]
  · rw [World.cell?_setCell_same _ _ _ ((World.cell?_setCell_other _ _ _ _ (np 1 2 (by decide))).trans ((World.cell?_setCell_other _ _ _ _ (np 0 2 (by decide))).trans c2))]
  · exact ((bel.setCell p0 _).setCell p0 _).setCell p0 _

theorem Tp.fin' {w w4 : World} {p : Nat} (h : Tp w p w4) (o : Obj) (y0 y1 y2 : Value) :
    ((((w4.setCell ⟨p, 0, none⟩ y0).setCell ⟨p, 1, none⟩ y1).setCell ⟨p, 2, none⟩ y2).alloc o).cell? ⟨p, 0, none⟩ = some y0 ∧
    ((((w4.setCell ⟨p, 0, none⟩ y0).setCell ⟨p, 1, none⟩ y1).setCell ⟨p, 2, none⟩ y2).alloc o).cell? ⟨p, 1, none⟩ = some y1 ∧
    ((((w4.setCell ⟨p, 0, none⟩ y0).setCell ⟨p, 1, none⟩ y1).setCell ⟨p, 2, none⟩ y2).alloc o).cell? ⟨p, 2, none⟩ = some y2 ∧
    Below w.heap.size w ((((w4.setCell ⟨p, 0, none⟩ y0).setCell ⟨p, 1, none⟩ y1).setCell ⟨p, 2, none⟩ y2).alloc o) := by
  obtain ⟨z0, z1, z2, zb⟩ := h.fin y0 y1 y2
  have hp : p < (((w4.setCell ⟨p, 0, none⟩ y0).setCell ⟨p, 1, none⟩ y1).setCell ⟨p, 2, none⟩ y2).heap.size := by
    have := h.pl
    simpa [World.setCell] using this
  exact ⟨(World.cell?_alloc_lt _ _ _ hp).trans z0, (World.cell?_alloc_lt _ _ _ hp).trans z1, (World.cell?_alloc_lt _ _ _ hp).trans z2, zb.alloc zb.size _⟩

set_option maxRecDepth 100000 in
set_option maxHeartbeats 1000000 in
theorem take_any (s : ByteArray) (w : World) (hs : s.size ≤ 140737488351232) :
    Calls Try.prog 16 #[.string s] w fun e w' => e = .returned (tkV (V.take s.data.toList)) ∧ Below w.heap.size w w' := by
  obtain ⟨t, n, g, h, k, HC, hk⟩ := takeWhole_any s hs
  have HC := Lib.hid HC
  have I0 := Tp.start w
  rcases hk with ⟨rfl, hr⟩ | ⟨rfl, hr⟩
  · rw [show V.take s.data.toList = none by rw [V.take, hr]]
    clear hr
    go_enter Try.func16, Try.ntmps16
    go_wp2_with fail
    refine (HC.out _).mono ?_
    rintro e w1 ⟨rfl, hb⟩
    have I1 := I0.step hb
    clear hb I0
    generalize w.heap.size = p at I1
    obtain ⟨_, p0, pl, c0, c1, c2, f0, f1, f2⟩ := id I1
    go_wp2_with fail
    obtain ⟨z0, z1, z2, zb⟩ := I1.fin' (.cells #[.int .i64 t, .int .i64 n, .string g] 23) (.int .i64 0) (.int .i64 0) (.string ⟨#[]⟩)
    refine bodyPost_ret (results_val rfl _ _ p (.int .i64 0) (.int .i64 0) (.string ⟨#[]⟩) rfl z0 z1 z2) rfl ?_
    exact ⟨rfl, zb⟩
  · have HM := Lib.hid (fun w => may_any t n g w)
    cases hm : V.may t n g.data.toList
    · rw [show V.take s.data.toList = none by simp only [V.take, hr, hm, Bool.false_eq_true, if_false]]
      rw [hm] at HM
      clear hr hm
      go_enter Try.func16, Try.ntmps16
      go_wp2_with fail
      refine (HC.out _).mono ?_
      rintro e w1 ⟨rfl, hb⟩
      have I1 := I0.step hb
      clear hb I0
      have I2 := I1.alloc (.cells #[.int .i64 t, .int .i64 n, .string g] 23)
      go_wp2_with fail
      refine (HM.out _).mono ?_
      rintro e w2 ⟨rfl, hb⟩
      have I3 := I2.step hb
      clear hb I1 I2
      generalize w.heap.size = p at I3
      obtain ⟨_, p0, pl, c0, c1, c2, f0, f1, f2⟩ := id I3
      go_wp2_with fail
      obtain ⟨z0, z1, z2, zb⟩ := I3.fin (.int .i64 0) (.int .i64 0) (.string ⟨#[]⟩)
      refine bodyPost_ret (results_val rfl _ _ p (.int .i64 0) (.int .i64 0) (.string ⟨#[]⟩) rfl z0 z1 z2) rfl ?_
      exact ⟨rfl, zb⟩
    · rw [show V.take s.data.toList = some (t, n, g.data.toList, h.data.toList) by simp only [V.take, hr, hm, if_true]]
      rw [hm] at HM
      clear hr hm
      go_enter Try.func16, Try.ntmps16
      go_wp2_with fail
      refine (HC.out _).mono ?_
      rintro e w1 ⟨rfl, hb⟩
      have I1 := I0.step hb
      clear hb I0
      have I2 := I1.alloc (.cells #[.int .i64 t, .int .i64 n, .string g] 23)
      have q0 : (w1.alloc (.cells #[.int .i64 t, .int .i64 n, .string g] 23)).cell? ⟨w1.heap.size, 0, none⟩ = some (.int .i64 t) := by simp
      have q1 : (w1.alloc (.cells #[.int .i64 t, .int .i64 n, .string g] 23)).cell? ⟨w1.heap.size, 1, none⟩ = some (.int .i64 n) := by simp
      have q2 : (w1.alloc (.cells #[.int .i64 t, .int .i64 n, .string g] 23)).cell? ⟨w1.heap.size, 2, none⟩ = some (.string g) := by simp
      have ql : w1.heap.size < (w1.alloc (.cells #[.int .i64 t, .int .i64 n, .string g] 23)).heap.size := by simp
      go_wp2_with fail
      refine (HM.out _).mono ?_
      rintro e w2 ⟨rfl, hb⟩
      have I3 := I2.step hb
      have d0 := (hb.cell (p := ⟨w1.heap.size, 0, none⟩) ql).trans q0
      have d1 := (hb.cell (p := ⟨w1.heap.size, 1, none⟩) ql).trans q1
      have d2 := (hb.cell (p := ⟨w1.heap.size, 2, none⟩) ql).trans q2
      clear hb I1 I2 q0 q1 q2 ql
      generalize w1.heap.size = q at d0 d1 d2
      generalize w.heap.size = p at I3
      obtain ⟨_, p0, pl, c0, c1, c2, f0, f1, f2⟩ := id I3
      go_wp2_with fail
      obtain ⟨z0, z1, z2, zb⟩ := I3.fin (.int .i64 t) (.int .i64 n) (.string g)
      refine bodyPost_ret (results_val rfl _ _ p (.int .i64 t) (.int .i64 n) (.string g) rfl z0 z1 z2) rfl ?_
      exact ⟨ret_v (by rw [tkV, bytes_eta, bytes_eta]; rfl), zb⟩

end Go.Proofs.Ytepgefjehnjibaa
