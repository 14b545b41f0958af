/-
  Blocks that a call keeps for itself (a struct of whatever fields): their cells, loaded, stored, returned. Conversions of a string to bytes.
-/
import Derived.Test.YthbnbifagenpiaaSlTypes
import Derived.Deep.MidRow
import Derived.Lib.SmallJoins
import Derived.Lib.ConvBytes
namespace Go.Proofs.Ythbnbifagenpiaa
open Go.RowKit

/-- the block p holds vs, and may be written -/
structure Bk (w : World) (p : Nat) (vs : List Value) : Prop where
  lt : p < w.heap.size
  cell : ∀ j u, vs[j]? = some u → w.cell? ⟨p, j, none⟩ = some u
  fz : ∀ j, j < vs.length → w.frozen? ⟨p, j, none⟩ = false

section
variable {w w' : World} {p q B : Nat} {vs : List Value} {u v : Value}

theorem bk_ne {q p : Nat} (h : q ≠ p) (o k : Nat) : (⟨q, o, none⟩ : Addr) ≠ ⟨p, k, none⟩ := fun e => by cases e; exact h rfl

theorem Bk.new (w : World) (vs : List Value) (t : TypeId) {g : Nat} (hg : g = w.heap.size) : Bk (w.alloc (.cells vs.toArray t)) g vs := by
  subst hg
  have h : (w.alloc (.cells vs.toArray t)).heap[w.heap.size]? = some (.cells vs.toArray t (0, 0)) := heap_alloc_new w _
  exact ⟨by simp, fun j u hj => by rw [cell_of_row _ _ _ _ _ _ h]; simpa using hj, fun j _ => by rw [World.frozen?, h]; simp⟩

theorem Bk.keep (h : Bk w p vs) (hk : w'.heap[p]? = w.heap[p]?) (hs : w.heap.size ≤ w'.heap.size) : Bk w' p vs :=
  ⟨Nat.lt_of_lt_of_le h.lt hs, fun j u hj => (World.cell?_of_block hk).trans (h.cell j u hj), fun j hj => (World.frozen?_of_block hk).trans (h.fz j hj)⟩
theorem Bk.below (h : Bk w p vs) (hb : Below B w w') (hp : p < B) : Bk w' p vs := h.keep (hb.block p hp) hb.size
theorem Bk.step (h : Bk w p vs) (hb : Below w.heap.size w w') : Bk w' p vs := h.below hb h.lt
theorem Bk.alloc (h : Bk w p vs) (o : Obj) : Bk (w.alloc o) p vs := h.step ((Below.refl _ _).alloc (Nat.le_refl _) o)
theorem Bk.drew (h : Bk w p vs) : Bk w.drew p vs := ⟨h.lt, h.cell, h.fz⟩
theorem Bk.other (h : Bk w p vs) (hq : q ≠ p) (o : Nat) (v : Value) : Bk (w.setCell ⟨q, o, none⟩ v) p vs :=
  h.keep (Below.heap_setCell w ⟨q, o, none⟩ v p hq.symm) (by simp [World.setCell])
theorem Bk.set (h : Bk w p vs) (i : Nat) (hi : i < vs.length) (v : Value) : Bk (w.setCell ⟨p, i, none⟩ v) p (vs.set i v) :=
  ⟨by have := h.lt; simpa [World.setCell] using this, fun j u hj => by
      rw [List.getElem?_set] at hj
      by_cases e : i = j
      · subst e
        rw [if_pos rfl, if_pos hi] at hj
        cases hj
        exact World.cell?_setCell_same w _ v (h.cell i _ (List.getElem?_eq_getElem hi))
      · rw [if_neg e] at hj
        exact (World.cell?_setCell_other w _ _ v (fun g => by cases g; exact e rfl)).trans (h.cell j u hj),
    fun j hj => by rw [World.frozen?_setCell]; exact h.fz j (by simpa using hj)⟩

theorem load_bk {P : Program} {ty : TypeId} {d : TypeDesc} (h : Bk w p vs) (hu : P.underlying ty = some d) (hd : d.isRow = true) (hi : (P.info? ty).map (·.size) = some vs.length) : (loadVar ty ⟨p, 0, none⟩).run P w = .ok (.agg vs.toArray) w :=
  run_loadVar_mid (P := P) w p 0 ty vs d (fun j v hj => by rw [Nat.zero_add]; exact h.cell j v hj) hu hd hi

theorem results_bk {P : Program} {fn : Func} {r : Tmp} {ty : TypeId} {d : TypeDesc} (hr : fn.results = #[.cell r ty]) (tmps : Array Value) (hp : tmps.getD r undef = .pointer (some ⟨p, 0, none⟩)) (h : Bk w p vs)
    (hu : P.underlying ty = some d) (hd : d.isRow = true) (hi : (P.info? ty).map (·.size) = some vs.length) : (results fn tmps).run P w = .ok (.agg vs.toArray) w := by
  have hl := load_bk h hu hd hi
  have hp' : tmps[r]?.getD undef = .pointer (some ⟨p, 0, none⟩) := by simpa using hp
  simp [results, hr, hp', asAddr, hl]

theorem results_bk_1 {P : Program} {fn : Func} {r s : Tmp} {ty : TypeId} {d : TypeDesc} (hr : fn.results = #[.cell r ty, .tmp s]) (tmps : Array Value) (hp : tmps.getD r undef = .pointer (some ⟨p, 0, none⟩)) (h : Bk w p vs)
    (hu : P.underlying ty = some d) (hd : d.isRow = true) (hi : (P.info? ty).map (·.size) = some vs.length) : (results fn tmps).run P w = .ok (.tuple #[.agg vs.toArray, tmps.getD s undef]) w := by
  have hl := load_bk h hu hd hi
  have hp' : tmps[r]?.getD undef = .pointer (some ⟨p, 0, none⟩) := by simpa using hp
  simp [results, hr, hp', asAddr, hl]
end

/-- all four cells stored -/
theorem Bk.all4 {w : World} {p : Nat} {a b c d : Value} (h : Bk w p [a, b, c, d]) (a' b' c' d' : Value) : Bk ((((w.setCell ⟨p, 0, none⟩ a').setCell ⟨p, 1, none⟩ b').setCell ⟨p, 2, none⟩ c').setCell ⟨p, 3, none⟩ d') p [a', b', c', d'] :=
  (((h.set 0 (by simp) a').set 1 (by simp) b').set 2 (by simp) c').set 3 (by simp) d'

end Go.Proofs.Ythbnbifagenpiaa
