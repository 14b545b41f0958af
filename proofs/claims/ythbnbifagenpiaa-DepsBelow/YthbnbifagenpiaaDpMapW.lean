/-
  Maps keyed by int64, at the operations, for the walk; and ranged over.
-/
import Derived.Test.YthbnbifagenpiaaDpMap
import Derived.Maps.RangeRun
namespace Go.Proofs.Ythbnbifagenpiaa
open Go.RowKit
open Go.ChangeMaps (setBlock heap_setBlock_same heap_setBlock_other)

section
variable {ops : Array Oper} {rest : List Oper} {o : Oper} {a : Act} {Q : Exit → Act → World → Prop} {w : World} {b n : Nat} {m : Int → Option Value}

theorem wpList_look_ok_i (hg : o.guard = none) (mo x : Operand) (t e : TypeId) (hop : o.op = Op.lookup t mo x true) (ht : Try.prog.underlying t = some (.map 2 e)) {z : Value} (hz : (zeroValue e).run Try.prog w = .ok z w)
    (hm : a.eval mo = .map (some b)) (h : Mi w b n m) (k : Int) (hx : a.eval x = .int .i64 k) (hK : wpList Try.prog ops Q rest (a.put o.dst (.tuple #[(m k).getD z, .bool (m k).isSome])) w) : wpList Try.prog ops Q (o :: rest) a w := by
  refine wpList_plain hg fun K' hK' => ?_
  unfold Oper.wp
  simp [execOp, hop, hm, hx, (h.look ht k hz).1, Result.andThen]
  exact hK' _ _ hK
theorem wpList_look_i (hg : o.guard = none) (mo x : Operand) (t e : TypeId) (hop : o.op = Op.lookup t mo x false) (ht : Try.prog.underlying t = some (.map 2 e)) {z : Value} (hz : (zeroValue e).run Try.prog w = .ok z w)
    (hm : a.eval mo = .map (some b)) (h : Mi w b n m) (k : Int) (hx : a.eval x = .int .i64 k) (hK : wpList Try.prog ops Q rest (a.put o.dst ((m k).getD z)) w) : wpList Try.prog ops Q (o :: rest) a w := by
  refine wpList_plain hg fun K' hK' => ?_
  unfold Oper.wp
  simp [execOp, hop, hm, hx, (h.look ht k hz).2, Result.andThen]
  exact hK' _ _ hK
theorem wpList_put_i (hg : o.guard = none) (mo x v : Operand) (t e : TypeId) (hop : o.op = Op.mapUpdate t mo x v) (ht : Try.prog.underlying t = some (.map 2 e))
    (hm : a.eval mo = .map (some b)) (h : Mi w b n m) (k : Int) (u : Value) (hx : a.eval x = .int .i64 k) (hv : a.eval v = u)
    (hK : ∀ w', Mi w' b (n + 1) (fun k' => if k' = k then some u else m k') → w.grownBy w' (some b) → wpList Try.prog ops Q rest (a.put o.dst undef) w') : wpList Try.prog ops Q (o :: rest) a w := by
  refine wpList_plain hg fun K' hK' => ?_
  obtain ⟨w', hrun, r1, r2⟩ := h.put ht k u
  unfold Oper.wp
  simp [execOp, hop, hm, hx, hv, hrun, Result.andThen]
  exact hK' _ _ (hK w' r1 r2)
theorem wpList_del_i (hg : o.guard = none) (mo x : Operand) (t e : TypeId) (hop : o.op = Op.call { callee := Callee.builtin Builtin.delete, args := #[mo, x], argTypes := #[t, 2] }) (ht : Try.prog.underlying t = some (.map 2 e))
    (hm : a.eval mo = .map (some b)) (h : Mi w b n m) (k : Int) (hx : a.eval x = .int .i64 k)
    (hK : ∀ w', Mi w' b n (fun k' => if k' = k then none else m k') → w.grownBy w' (some b) → wpList Try.prog ops Q rest (a.put o.dst (.tuple #[])) w') : wpList Try.prog ops Q (o :: rest) a w := by
  refine wpList_plain hg fun K' hK' => ?_
  obtain ⟨w', hrun, r1, r2⟩ := h.del ht k o.type
  unfold Oper.wp
  simp [execOp, hop, resolve, invoke, builtin, hm, hx, hrun, Result.andThen]
  exact hK' _ _ (hK w' r1 r2)
end

theorem heap_sb_same_i {w : World} {r : Nat} (o : Obj) (h : r < w.heap.size) : (setBlock w r o).heap[r]? = some o := by simp [setBlock, h]
theorem heap_sb_other_i {w : World} {r i : Nat} (o : Obj) (h : i ≠ r) : (setBlock w r o).heap[i]? = w.heap[i]? := by
  simp [setBlock, Array.getElem?_setIfInBounds_ne (Ne.symm h)]

/-- the map in block b is ranged over by the iterator in block r; T are still to come -/
def Rni (w : World) (b r n : Nat) (m : Int → Option Value) (T : List Eni) : Prop :=
  ∃ L c since seen c0, w.heap[b]? = some (.map (ensi L) c) ∧ w.heap[r]? = some (.mapIter (some b) since seen c0) ∧ (∀ x ∈ L, x.born < since) ∧ since ≤ c0 ∧ (∀ x ∈ L, x.born < c) ∧ L.Pairwise (fun x y => x.k ≠ y.k) ∧ L.Pairwise (fun x y => x.born ≠ y.born) ∧ L.length ≤ n ∧ (∀ k, elI k L = m k) ∧ since ≤ c ∧ T = L.filter (fun x => !seen.contains x.born)

section
variable {w w' : World} {b r n : Nat} {m : Int → Option Value} {T : List Eni}
theorem Rni.map (h : Rni w b r n m T) : Mi w b n m := by
  obtain ⟨L, c, since, seen, c0, hb, _, _, _, h1, h2, h3, h4, h5, _⟩ := h
  exact ⟨L, c, hb, h1, h2, h3, h4, h5⟩
theorem Rni.keep (h : Rni w b r n m T) (h1 : w'.heap[b]? = w.heap[b]?) (h2 : w'.heap[r]? = w.heap[r]?) : Rni w' b r n m T := by
  obtain ⟨L, c, since, seen, c0, hb, hr, q⟩ := h
  exact ⟨L, c, since, seen, c0, h1.trans hb, h2.trans hr, q⟩
theorem Rni.lt (h : Rni w b r n m T) : b < w.heap.size ∧ r < w.heap.size := by
  obtain ⟨L, c, since, seen, c0, hb, hr, _⟩ := h
  exact ⟨(Array.getElem?_eq_some_iff.1 hb).1, (Array.getElem?_eq_some_iff.1 hr).1⟩
/-- at first: all of them, each once -/
theorem Mi.range (h : Mi w b n m) {t e : TypeId} (ht : Try.prog.underlying t = some (.map 2 e)) :
    ∃ w' T, (Instr.range t (.map (some b))).run Try.prog w = .ok (.pointer (some ⟨w.heap.size, 0, none⟩)) w' ∧ Rni w' b w.heap.size n m T ∧ T.length ≤ n ∧ T.Pairwise (fun x y => x.k ≠ y.k) ∧ (∀ k v, (∃ x ∈ T, x.k = k ∧ x.v = v) ↔ m k = some v) ∧ Below w.heap.size w w' := by
  obtain ⟨L, c, hb, h1, h2, h3, h4, h5⟩ := h
  have hbl := (Array.getElem?_eq_some_iff.1 hb).1
  refine ⟨w.alloc (.mapIter (some b) c #[] c), L, ?_, ⟨L, c, c, #[], c, ?_, heap_alloc_new w _, h1, Nat.le_refl _, h1, h2, h3, h4, h5, Nat.le_refl _, (List.filter_eq_self.2 (fun x _ => by simp)).symm⟩, h4, h2, fun k v => ?_, (Below.refl _ _).alloc (Nat.le_refl _) _⟩
  · simp [Instr.range, run_underlying ht, MapKept.run_getObj_map hb, Result.andThen, newObj]
    rfl
  · rw [((Below.refl w.heap.size w).alloc (Nat.le_refl _) (.mapIter (some b) c #[] c)).block b hbl]
    exact hb
  · rw [← h5]
    clear h5 h4 h3 h1 hb hbl
    induction L with
    | nil => simp [elI]
    | cons x B ih =>
      have h2 := List.pairwise_cons.1 h2
      rw [el_cons_i]
      by_cases e : k = x.k
      · subst e
        rw [if_pos rfl]
        constructor
        · rintro ⟨y, hy, hk, rfl⟩
          rcases List.mem_cons.1 hy with rfl | hy
          · rfl
          · exact absurd hk.symm (h2.1 y hy)
        · intro hv
          cases hv
          exact ⟨x, by simp, rfl, rfl⟩
      · rw [if_neg e, ← ih h2.2]
        constructor
        · rintro ⟨y, hy, rfl, rfl⟩
          rcases List.mem_cons.1 hy with rfl | hy
          · exact absurd rfl e
          · exact ⟨y, hy, rfl, rfl⟩
        · rintro ⟨y, hy, rfl, rfl⟩
          exact ⟨y, by simp [hy], rfl, rfl⟩
/-- a step of it -/
theorem Rni.next (h : Rni w b r n m T) (ty : TypeId) (hbr : b ≠ r) :
    (T = [] ∧ (Instr.next (.pointer (some ⟨r, 0, none⟩)) false ty).run Try.prog w = .ok (.tuple #[.bool false]) w) ∨
    ∃ A x B w', T = A ++ x :: B ∧ (Instr.next (.pointer (some ⟨r, 0, none⟩)) false ty).run Try.prog w = .ok (.tuple #[.bool true, .int .i64 x.k, x.v]) w' ∧ Rni w' b r n m (A ++ B) ∧ w.grownBy w' (some r) ∧ (Instr.entry (.pointer (some ⟨r, 0, none⟩))).run Try.prog w' = .ok (.tuple #[.int .i64 x.k, x.v]) w' := by
  obtain ⟨L, c, since, seen, c0, hb, hr, hs, hsc, h1, h2, h3, h4, h5, h6, rfl⟩ := h
  have hl : (ensi L).toList = L.map Eni.at := by simp [ensi]
  have hleft : leftOf (ensi L) seen = ensi (L.filter (fun x => !seen.contains x.born)) := by
    unfold leftOf ensi
    apply Array.ext'
    simp [List.filter_map]
    rfl
  have hold : ∀ x ∈ (ensi L).toList, x.born < since := fun x hx => by
    rw [hl] at hx
    obtain ⟨y, hy, rfl⟩ := List.mem_map.1 hx
    exact hs y hy
  rcases run_next_at (P := Try.prog) w ty r b since c0 seen (ensi L) c hr hb hold hsc with ⟨h0, hrun⟩ | ⟨e, he, w1, hw1, hrun⟩
  · left
    rw [hleft] at h0
    refine ⟨?_, hrun⟩
    exact List.length_eq_zero_iff.1 (by simpa [ensi] using h0)
  · right
    rw [hleft] at he
    have he : e ∈ (L.filter (fun x => !seen.contains x.born)).map Eni.at := by simpa [ensi] using he
    obtain ⟨x, hx, rfl⟩ := List.mem_map.1 he
    obtain ⟨A, B, hAB⟩ := List.append_of_mem hx
    have hw1b : ∀ i : Nat, w1.heap[i]? = w.heap[i]? := fun i => by rcases hw1 with rfl | rfl <;> rfl
    have hr1 : r < w1.heap.size := (Array.getElem?_eq_some_iff.1 ((hw1b r).trans hr)).1
    refine ⟨A, x, B, _, hAB, hrun, ⟨L, c, since, seen.push x.born, c, ?_, heap_sb_same_i _ hr1, hs, h6, h1, h2, h3, h4, h5, h6, ?_⟩, ?_, ?_⟩
    · rw [heap_sb_other_i _ hbr]
      exact (hw1b b).trans hb
    · have e1 : L.filter (fun y => !(seen.push x.born).contains y.born) = (L.filter (fun y => !seen.contains y.born)).filter (fun y => decide (y.born ≠ x.born)) := by
        rw [List.filter_filter]
        congr 1
        funext y
        by_cases e : y.born = x.born <;> simp [e]
      have hp : (A ++ x :: B).Pairwise (fun x y => x.born ≠ y.born) := by
        rw [← hAB]
        exact h3.sublist List.filter_sublist
      have hp := List.pairwise_append.1 hp
      have hp2 := List.pairwise_cons.1 hp.2.1
      rw [e1, hAB, List.filter_append, List.filter_cons, if_neg (by simp), List.filter_eq_self.2 (fun y hy => ?_), List.filter_eq_self.2 (fun y hy => ?_)]
      · exact decide_eq_true (Ne.symm (hp2.1 y hy))
      · exact decide_eq_true (hp.2.2 y hy x (by simp))
    · refine ⟨?_, ?_, ?_, ?_, fun i _ hi => ?_⟩
      · rcases hw1 with rfl | rfl <;> rfl
      · rcases hw1 with rfl | rfl <;> rfl
      · rcases hw1 with rfl | rfl <;> rfl
      · rcases hw1 with rfl | rfl <;> simp [setBlock]
      · rw [heap_sb_other_i _ (fun e => hi (by rw [e]))]
        exact hw1b i
    · refine run_entry_at _ r b since seen (ensi L) c x.at (heap_sb_same_i _ hr1) ((heap_sb_other_i _ hbr).trans ((hw1b b).trans hb)) ?_ ?_
      · rw [hl]
        exact List.mem_map.2 ⟨x, by
          have : x ∈ L.filter (fun x => !seen.contains x.born) := by rw [hAB]; simp
          exact (List.mem_filter.1 this).1, rfl⟩
      · rw [hl, List.map_map, List.Nodup, List.pairwise_map]
        exact h3
end
end Go.Proofs.Ythbnbifagenpiaa
