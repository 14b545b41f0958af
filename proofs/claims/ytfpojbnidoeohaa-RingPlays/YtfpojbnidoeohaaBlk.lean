/-
  Blocks of three cells that a call keeps for itself (a struct of three fields).
-/
import Derived.Test.YtfpojbnidoeohaaSlTypes
import Derived.Deep.MidRow
import Derived.Deep.AppendLies
import Derived.Lib.SmallJoins
namespace Go.Proofs.Ytfpojbnidoeohaa
open Go.RowKit

/-- the block p holds x, y, z, and may be written -/
structure B3 (w : World) (p : Nat) (x y z : Value) : Prop where
  lt : p < w.heap.size
  c0 : w.cell? ⟨p, 0, none⟩ = some x
  c1 : w.cell? ⟨p, 1, none⟩ = some y
  c2 : w.cell? ⟨p, 2, none⟩ = some z
  f0 : w.frozen? ⟨p, 0, none⟩ = false
  f1 : w.frozen? ⟨p, 1, none⟩ = false
  f2 : w.frozen? ⟨p, 2, none⟩ = false

section
variable {w w' : World} {p q B : Nat} {x y z u : Value}

theorem B3.new (w : World) (x y z : Value) (t : TypeId) {g : Nat} (hg : g = w.heap.size) : B3 (w.alloc (.cells #[x, y, z] t)) g x y z := by
  subst hg
  exact ⟨by simp, by simp, by simp, by simp, by simp, by simp, by simp⟩

theorem B3.below (h : B3 w p x y z) (hb : Below B w w') (hp : p < B) : B3 w' p x y z :=
  ⟨Nat.lt_of_lt_of_le h.lt hb.size, (hb.cell hp).trans h.c0, (hb.cell hp).trans h.c1, (hb.cell hp).trans h.c2, (hb.frozen hp).trans h.f0, (hb.frozen hp).trans h.f1, (hb.frozen hp).trans h.f2⟩

theorem B3.step (h : B3 w p x y z) (hb : Below w.heap.size w w') : B3 w' p x y z := h.below hb h.lt
theorem B3.alloc (h : B3 w p x y z) (o : Obj) : B3 (w.alloc o) p x y z := h.step ((Below.refl _ _).alloc (Nat.le_refl _) o)
theorem B3.drew (h : B3 w p x y z) : B3 w.drew p x y z := ⟨h.lt, h.c0, h.c1, h.c2, h.f0, h.f1, h.f2⟩

theorem blk_ne {q p : Nat} (h : q ≠ p) (o k : Nat) : (⟨q, o, none⟩ : Addr) ≠ ⟨p, k, none⟩ := fun e => by cases e; exact h rfl
theorem off_ne (q : Nat) {k j : Nat} (h : k ≠ j) : (⟨q, k, none⟩ : Addr) ≠ ⟨q, j, none⟩ := fun e => by cases e; exact h rfl

theorem B3.other (h : B3 w p x y z) (hq : q ≠ p) (o : Nat) (v : Value) : B3 (w.setCell ⟨q, o, none⟩ v) p x y z :=
  ⟨by have := h.lt; simpa [World.setCell] using this, (World.cell?_setCell_other w _ _ v (blk_ne hq o 0)).trans h.c0, (World.cell?_setCell_other w _ _ v (blk_ne hq o 1)).trans h.c1, (World.cell?_setCell_other w _ _ v (blk_ne hq o 2)).trans h.c2,
    by rw [World.frozen?_setCell]; exact h.f0, by rw [World.frozen?_setCell]; exact h.f1, by rw [World.frozen?_setCell]; exact h.f2⟩

theorem B3.set0 (h : B3 w p x y z) (v : Value) : B3 (w.setCell ⟨p, 0, none⟩ v) p v y z :=
  ⟨by have := h.lt; simpa [World.setCell] using this, World.cell?_setCell_same w _ v h.c0, (World.cell?_setCell_other w _ _ v (off_ne p (by decide))).trans h.c1, (World.cell?_setCell_other w _ _ v (off_ne p (by decide))).trans h.c2,
    by rw [World.frozen?_setCell]; exact h.f0, by rw [World.frozen?_setCell]; exact h.f1, by rw [World.frozen?_setCell]; exact h.f2⟩
theorem B3.set1 (h : B3 w p x y z) (v : Value) : B3 (w.setCell ⟨p, 1, none⟩ v) p x v z :=
  ⟨by have := h.lt; simpa [World.setCell] using this, (World.cell?_setCell_other w _ _ v (off_ne p (by decide))).trans h.c0, World.cell?_setCell_same w _ v h.c1, (World.cell?_setCell_other w _ _ v (off_ne p (by decide))).trans h.c2,
    by rw [World.frozen?_setCell]; exact h.f0, by rw [World.frozen?_setCell]; exact h.f1, by rw [World.frozen?_setCell]; exact h.f2⟩
theorem B3.set2 (h : B3 w p x y z) (v : Value) : B3 (w.setCell ⟨p, 2, none⟩ v) p x y v :=
  ⟨by have := h.lt; simpa [World.setCell] using this, (World.cell?_setCell_other w _ _ v (off_ne p (by decide))).trans h.c0, (World.cell?_setCell_other w _ _ v (off_ne p (by decide))).trans h.c1, World.cell?_setCell_same w _ v h.c2,
    by rw [World.frozen?_setCell]; exact h.f0, by rw [World.frozen?_setCell]; exact h.f1, by rw [World.frozen?_setCell]; exact h.f2⟩

/-- all three stored -/
theorem B3.setAll (h : B3 w p x y z) (x' y' z' : Value) : B3 (((w.setCell ⟨p, 0, none⟩ x').setCell ⟨p, 1, none⟩ y').setCell ⟨p, 2, none⟩ z') p x' y' z' := ((h.set0 x').set1 y').set2 z'

theorem load_b3 {P : Program} {ty : TypeId} {d : TypeDesc} (h : B3 w p x y z) (hu : P.underlying ty = some d) (hd : d.isRow = true) (hi : (P.info? ty).map (·.size) = some 3) : (loadVar ty ⟨p, 0, none⟩).run P w = .ok (.agg #[x, y, z]) w := by
  refine run_loadVar_mid (P := P) w p 0 ty [x, y, z] d ?_ hu hd hi
  intro j v hj
  match j, hj with
  | 0, hj => cases hj; exact h.c0
  | 1, hj => cases hj; exact h.c1
  | 2, hj => cases hj; exact h.c2

theorem results_b3 {P : Program} {fn : Func} {r : Tmp} {ty : TypeId} {d : TypeDesc} (hr : fn.results = #[.cell r ty]) (tmps : Array Value) (hp : tmps.getD r undef = .pointer (some ⟨p, 0, none⟩)) (h : B3 w p x y z)
    (hu : P.underlying ty = some d) (hd : d.isRow = true) (hi : (P.info? ty).map (·.size) = some 3) : (results fn tmps).run P w = .ok (.agg #[x, y, z]) w := by
  have hl := load_b3 h hu hd hi
  have hp' : tmps[r]?.getD undef = .pointer (some ⟨p, 0, none⟩) := by simpa using hp
  simp [results, hr, hp', asAddr, hl]

theorem results_b3_1 {P : Program} {fn : Func} {r s : Tmp} {ty : TypeId} {d : TypeDesc} (hr : fn.results = #[.cell r ty, .tmp s]) (tmps : Array Value) (hp : tmps.getD r undef = .pointer (some ⟨p, 0, none⟩)) (h : B3 w p x y z)
    (hu : P.underlying ty = some d) (hd : d.isRow = true) (hi : (P.info? ty).map (·.size) = some 3) : (results fn tmps).run P w = .ok (.tuple #[.agg #[x, y, z], tmps.getD s undef]) w := by
  have hl := load_b3 h hu hd hi
  have hp' : tmps[r]?.getD undef = .pointer (some ⟨p, 0, none⟩) := by simpa using hp
  simp [results, hr, hp', asAddr, hl]
end

end Go.Proofs.Ytfpojbnidoeohaa
