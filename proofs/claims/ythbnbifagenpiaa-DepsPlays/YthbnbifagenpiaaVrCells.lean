/-
  Rows of elements of many cells: one of them read, one of them written; a struct of two fields in a block. No program's function stands here.
-/
import Derived.Test.YthbnbifagenpiaaSlTypes
import Derived.Deep.MidRow
import Derived.Laws.CopyOwn
namespace Go.Proofs.Ythbnbifagenpiaa.V
open Go.RowKit

section
variable {α : Type} {f : α → List Value} {m : Nat}

theorem flat_len : ∀ (l : List α), (∀ x ∈ l, (f x).length = m) → (l.flatMap f).length = l.length * m
  | [], _ => by simp
  | x :: r, h => by
    rw [List.flatMap_cons, List.length_append, h x (by simp), flat_len r (fun y hy => h y (by simp [hy])), List.length_cons, Nat.succ_mul, Nat.add_comm]

theorem flat_at : ∀ (l : List α), (∀ x ∈ l, (f x).length = m) → ∀ (i : Nat) (hi : i < l.length) (j : Nat), j < m → (l.flatMap f)[i * m + j]? = (f l[i])[j]?
  | [], _, i, hi, _, _ => by simp at hi
  | x :: r, h, 0, _, j, hj => by
    rw [List.flatMap_cons, List.getElem?_append_left (by rw [h x (by simp)]; omega)]; simp
  | x :: r, h, i + 1, hi, j, hj => by
    have hx := h x (by simp)
    have e : (i + 1) * m + j - (f x).length = i * m + j := by rw [hx, Nat.succ_mul]; omega
    rw [List.flatMap_cons, List.getElem?_append_right (by rw [hx, Nat.succ_mul]; omega), e, flat_at r (fun y hy => h y (by simp [hy])) i (by simpa using hi) j hj]
    simp

theorem flat_set : ∀ (l : List α), (∀ x ∈ l, (f x).length = m) → ∀ (i : Nat), i < l.length → ∀ y, (f y).length = m → (l.set i y).flatMap f = splice (l.flatMap f) (i * m) (f y)
  | [], _, i, hi, _, _ => by simp at hi
  | x :: r, h, 0, _, y, hy => by
    have hx := h x (by simp)
    rw [List.set_cons_zero, List.flatMap_cons, List.flatMap_cons, splice, Nat.zero_mul, List.take_zero, List.nil_append, Nat.zero_add, hy, ← hx, List.drop_left]
  | x :: r, h, i + 1, hi, y, hy => by
    have hx := h x (by simp)
    have ih := flat_set r (fun y hy => h y (by simp [hy])) i (by simpa using hi) y hy
    have e1 : (i + 1) * m = (f x).length + i * m := by rw [hx, Nat.succ_mul, Nat.add_comm]
    rw [List.set_cons_succ, List.flatMap_cons, List.flatMap_cons, ih, splice, splice, e1, List.take_length_add_append, Nat.add_assoc, List.drop_length_add_append, List.append_assoc]

theorem flat_one (l : List α) (h : ∀ x ∈ l, ∀ u ∈ f x, u.oneCell' = true) : ∀ u ∈ l.flatMap f, u.oneCell' = true := fun u hu => by
  obtain ⟨x, hx, hu⟩ := List.mem_flatMap.1 hu
  exact h x hx u hu
end

/-! what a call owns -/
section
variable {w w' : World} {base k n : Nat} {e : TypeId} {v : Value} {xs : List Value}

theorem own_form (h : w.ownsRow base e k v n xs) (hn : 0 < n) : ∃ g cap cur, v = .slice (some ⟨g, 0, none⟩) n cap ∧ g < w.heap.size ∧ n ≤ cap ∧ w.heap[g]? = some (.cells cur e (0, 0)) ∧ cur.size = cap * k ∧ cur.toList.take (n * k) = xs := by
  have h0 := h
  rcases h.2 with ⟨_, h1⟩ | ⟨g, cap, cur, rfl, _, hg, hc, _, h1, h2⟩
  · omega
  · exact ⟨g, cap, cur, rfl, (World.ownsRow.lt h0 g rfl).2, hc, hg, h1, h2⟩

theorem own_keep (h : w.ownsRow base e k v n xs) (hk : ∀ j, v.ownBlock = some j → w'.heap[j]? = w.heap[j]?) : w'.ownsRow base e k v n xs := by
  refine ⟨h.1, ?_⟩
  rcases h.2 with hn | ⟨g, cap, cur, rfl, hb, hg, rest⟩
  · exact .inl hn
  · exact .inr ⟨g, cap, cur, rfl, hb, (hk g rfl).trans hg, rest⟩

theorem own_base (h : w.ownsRow base e k v n xs) : w.ownsRow 0 e k v n xs := by
  refine ⟨h.1, ?_⟩
  rcases h.2 with hn | ⟨g, cap, cur, rfl, hb, rest⟩
  · exact .inl hn
  · exact .inr ⟨g, cap, cur, rfl, Nat.zero_le _, rest⟩

theorem own_raise {base' : Nat} (h : w.ownsRow base e k v n xs) (hb : ∀ j, v.ownBlock = some j → base' ≤ j) : w.ownsRow base' e k v n xs := by
  refine ⟨h.1, ?_⟩
  rcases h.2 with hn | ⟨g, cap, cur, rfl, _, rest⟩
  · exact .inl hn
  · exact .inr ⟨g, cap, cur, rfl, hb g rfl, rest⟩

theorem own_cell {g cap : Nat} (h : w.ownsRow base e k (.slice (some ⟨g, 0, none⟩) n cap) n xs) {j : Nat} {u : Value} (hj : xs[j]? = some u) : w.cell? ⟨g, j, none⟩ = some u := by
  rcases h.2 with ⟨h1, _⟩ | ⟨g', cap', cur, he, _, hg, hc, _, h1, h2⟩
  · cases h1
  · cases he
    rw [← h2, List.getElem?_take] at hj
    split at hj
    · simp [World.cell?, hg]; simpa using hj
    · cases hj

theorem own_frozen {g cap : Nat} (h : w.ownsRow base e k (.slice (some ⟨g, 0, none⟩) n cap) n xs) (j : Nat) : w.frozen? ⟨g, j, none⟩ = false := by
  rcases h.2 with ⟨h1, _⟩ | ⟨g', cap', cur, he, _, hg, _⟩
  · cases h1
  · cases he
    simp [World.frozen?, hg]

theorem own_range {α : Type} {f : α → List Value} {l : List α} {g cap : Nat} (h : w.ownsRow base e k (.slice (some ⟨g, 0, none⟩) n cap) n (l.flatMap f)) (hf : ∀ x ∈ l, (f x).length = k) (i : Nat) (hi : i < l.length) : w.rangeAt g (i * k) (f l[i]) := by
  intro j u hj
  have hjl : j < k := by
    have := (List.getElem?_eq_some_iff.1 hj).1
    rwa [hf _ (List.getElem_mem hi)] at this
  refine own_cell h ?_
  rw [flat_at l hf i hi j hjl]
  exact hj

theorem own_there {g cap : Nat} (h : w.ownsRow base e k (.slice (some ⟨g, 0, none⟩) n cap) n xs) (o c : Nat) (ho : o + c ≤ n * k) : w.there g o c := fun j hj =>
  ⟨by rw [own_cell h (List.getElem?_eq_getElem (by rw [h.1]; omega))]; rfl, own_frozen h _⟩

/-- many cells set, as one row set -/
theorem setCells_row {g : Nat} {t : TypeId} {cur : Array Value} (P : Program) (hg : w.heap[g]? = some (.cells cur t (0, 0))) (o : Nat) (vs : List Value) (ho : o + vs.length ≤ cur.size) (h1 : ∀ v ∈ vs, v.oneCell' = true) : w.setCells g o vs = w.setRow g (splice cur.toList o vs).toArray := by
  have a := run_storeCells_at P g o t vs 0 cur w hg (by simpa using ho) h1
  have b := run_storeCells_cells (P := P) g o vs 0 w (fun j hj => by simp [World.cell?, hg]; omega) (fun j hj => by simp [World.frozen?, hg]) h1
  rw [b] at a
  simp only [Nat.add_zero, Result.ok.injEq, true_and] at a
  rw [a, splice, List.append_assoc]

theorem take_splice {α : Type} (L : List α) (o N : Nat) (cs : List α) (h : o + cs.length ≤ N) (hL : o ≤ L.length) : (splice L o cs).take N = splice (L.take N) o cs := by
  have e1 : (L.take o).length = o := by rw [List.length_take]; omega
  rw [splice, splice, List.take_append, List.take_append, e1, List.take_take, List.take_take, List.drop_take, Nat.min_eq_right (by omega : o ≤ N), Nat.min_eq_left (by omega : o ≤ N),
    List.take_of_length_le (by omega : cs.length ≤ N - o), show N - o - cs.length = N - (o + cs.length) by omega]

theorem own_stored {g cap : Nat} (P : Program) (h : w.ownsRow base e k (.slice (some ⟨g, 0, none⟩) n cap) n xs) (o : Nat) (cs : List Value) (ho : o + cs.length ≤ n * k) (h1 : ∀ v ∈ cs, v.oneCell' = true) :
    (w.setCells g o cs).ownsRow base e k (.slice (some ⟨g, 0, none⟩) n cap) n (splice xs o cs) ∧ (w.setCells g o cs).heap.size = w.heap.size ∧ (∀ j, j ≠ g → (w.setCells g o cs).heap[j]? = w.heap[j]?) ∧ (w.setCells g o cs).os = w.os ∧ (w.setCells g o cs).tape = w.tape ∧ (w.setCells g o cs).output = w.output := by
  rcases h.2 with ⟨h2, _⟩ | ⟨g', cap', cur, he, hb, hg, hc, hm, h3, h4⟩
  · cases h2
  · cases he
    have hle : n * k ≤ cap * k := Nat.mul_le_mul_right _ hc
    have es := setCells_row P hg o cs (by omega) h1
    rw [es]
    refine ⟨⟨?_, .inr ⟨g, cap, _, rfl, hb, setRow_heap w g cur _ _ _ hg, hc, hm, ?_, ?_⟩⟩, by simp [World.setRow], fun j hj => setRow_other w g j _ hj, rfl, rfl, rfl⟩
    · rw [length_splice _ _ _ (by rw [h.1]; exact ho), h.1]
    · rw [List.size_toArray, length_splice _ _ _ (by simp; omega), Array.length_toList, h3]
    · rw [← h4]; exact take_splice _ _ _ _ ho (by simp; omega)
end

end Go.Proofs.Ythbnbifagenpiaa.V
