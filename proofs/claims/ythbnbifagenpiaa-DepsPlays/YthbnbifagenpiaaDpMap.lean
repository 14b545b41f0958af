/-
  Maps keyed by int64, whatever their elements: looked up, stored, deleted. The entries as they lie, keys and elements.
-/
import Derived.Test.YthbnbifagenpiaaDpLaw1
import Derived.Maps.OwnSet
namespace Go.Proofs.Ythbnbifagenpiaa
open Go.RowKit
open Go.ChangeMaps (setBlock heap_setBlock_same heap_setBlock_other)

/-- an entry: its key, its element, when it came -/
structure Eni where
  k : Int
  v : Value
  born : Nat
def Eni.at (x : Eni) : MapEntry := ⟨.int .i64 x.k, x.v, x.born⟩
def ensi (L : List Eni) : Array MapEntry := (L.map Eni.at).toArray

/-- where a key stands -/
def fndI (k : Int) : List Eni → Nat → Option (Nat × Value)
  | [], _ => none
  | x :: r, i => if decide (k = x.k) = true then some (i, x.v) else fndI k r (i + 1)
/-- its element -/
def elI (k : Int) : List Eni → Option Value
  | [] => none
  | x :: r => if decide (k = x.k) = true then some x.v else elI k r

theorem run_find_i (k : Int) (w : World) (L : List Eni) : (Instr.findKey 2 (.int .i64 k) (L.map Eni.at)).run Try.prog w = .ok (fndI k L 0) w := by
  have e : ∀ (L : List Eni) (i : Nat), Instr.findNow (.int .i64) (.int .i64 k) (L.map Eni.at) i = some (fndI k L i) := by
    intro L
    induction L with
    | nil => intro i; rfl
    | cons x r ih =>
      intro i
      rw [List.map_cons]
      unfold Instr.findNow fndI
      rw [show Instr.sameNow (.int .i64) (.int .i64 k) (Eni.at x).key = some (decide (k = x.k)) by simp [Instr.sameNow, Eni.at]; rfl]
      cases decide (k = x.k) with
      | true => rfl
      | false => exact ih (i + 1)
  unfold Instr.findKey
  simp only [Sem.run_bind, run_underlying Try.underlying2, Result.andThen_ok, e L 0]
  rfl
theorem run_check_any_i (em : Bool) (k : Int) (n : Nat) (w : World) : (Instr.checkKey em (n + 1) 2 (.int .i64 k)).run Try.prog w = .ok () w := by
  simp only [Instr.checkKey, Sem.run_bind, run_underlying Try.underlying2, Result.andThen_ok, Sem.run_pure]
theorem run_check_i (em : Bool) (k : Int) (w : World) : (Instr.checkKey em 10000 2 (.int .i64 k)).run Try.prog w = .ok () w := run_check_any_i em k 9999 w
theorem same_iff_i (x y : Int) : decide (x = y) = true ↔ x = y := decide_eq_true_iff
theorem same_self_i (x : Int) : decide (x = x) = true := decide_eq_true rfl
theorem same_no_i {x y : Int} (h : x ≠ y) : decide (x = y) = false := decide_eq_false h

/-! ### what stands where -/
theorem fnd_el_i (k : Int) : ∀ (L : List Eni) (i : Nat), (fndI k L i).map Prod.snd = elI k L := by
  intro L
  induction L with
  | nil => intro i; rfl
  | cons x r ih =>
    intro i
    unfold fndI elI
    cases decide (k = x.k) with
    | true => rfl
    | false => exact ih (i + 1)
theorem fnd_at_i (k : Int) : ∀ (L : List Eni) (i j : Nat) (v : Value), fndI k L i = some (j, v) → i ≤ j ∧ ∃ A x B, L = A ++ x :: B ∧ A.length = j - i ∧ x.k = k ∧ x.v = v ∧ ∀ y ∈ A, y.k ≠ k := by
  intro L
  induction L with
  | nil => intro i j v h; cases h
  | cons x r ih =>
    intro i j v h
    unfold fndI at h
    cases hs : decide (k = x.k) with
    | true =>
      rw [hs, if_pos rfl] at h
      cases h
      exact ⟨Nat.le_refl _, [], x, r, rfl, by simp, ((same_iff_i _ _).1 hs).symm, rfl, fun y hy => by cases hy⟩
    | false =>
      rw [hs, if_neg Bool.false_ne_true] at h
      obtain ⟨h1, A, y, B, rfl, h2, h3, h4, h5⟩ := ih (i + 1) j v h
      refine ⟨by omega, x :: A, y, B, rfl, by simp; omega, h3, h4, fun z hz => ?_⟩
      rcases List.mem_cons.1 hz with rfl | hz
      · intro e
        rw [e, same_self_i] at hs
        cases hs
      · exact h5 z hz
theorem fnd_none_i {k : Int} {L : List Eni} {i : Nat} (h : fndI k L i = none) : ∀ y ∈ L, y.k ≠ k := by
  induction L generalizing i with
  | nil => intro y hy; cases hy
  | cons x r ih =>
    unfold fndI at h
    cases hs : decide (k = x.k) with
    | true => rw [hs, if_pos rfl] at h; cases h
    | false =>
      rw [hs, if_neg Bool.false_ne_true] at h
      intro y hy
      rcases List.mem_cons.1 hy with rfl | hy
      · intro e
        rw [e, same_self_i] at hs
        cases hs
      · exact ih h y hy
theorem el_none_i {k : Int} {L : List Eni} (h : ∀ y ∈ L, y.k ≠ k) : elI k L = none := by
  induction L with
  | nil => rfl
  | cons x r ih =>
    unfold elI
    rw [same_no_i (fun e => h x (by simp) e.symm), if_neg Bool.false_ne_true]
    exact ih (fun y hy => h y (by simp [hy]))
theorem el_cons_i (k : Int) (x : Eni) (B : List Eni) : elI k (x :: B) = if k = x.k then some x.v else elI k B := by
  show (if decide (k = x.k) = true then some x.v else elI k B) = _
  by_cases e : k = x.k
  · rw [if_pos e, if_pos ((same_iff_i _ _).2 e)]
  · rw [if_neg e, same_no_i e, if_neg Bool.false_ne_true]
theorem el_app_i (k : Int) (A B : List Eni) : elI k (A ++ B) = (elI k A).or (elI k B) := by
  induction A with
  | nil => rfl
  | cons x r ih =>
    rw [List.cons_append, el_cons_i, el_cons_i, ih]
    by_cases e : k = x.k
    · rw [if_pos e, if_pos e]; rfl
    · rw [if_neg e, if_neg e]
theorem modify_mid_i {α : Type} (f : α → α) (x : α) (B : List α) : ∀ A : List α, (A ++ x :: B).modify A.length f = A ++ f x :: B
  | [] => by simp
  | y :: A => by
    have := modify_mid_i f x B A
    simpa using this

/-- block b is a map of at most n entries, whose elements are m -/
def Mi (w : World) (b n : Nat) (m : Int → Option Value) : Prop :=
  ∃ L c, w.heap[b]? = some (.map (ensi L) c) ∧ (∀ x ∈ L, x.born < c) ∧ L.Pairwise (fun x y => x.k ≠ y.k) ∧ L.Pairwise (fun x y => x.born ≠ y.born) ∧ L.length ≤ n ∧ ∀ k, elI k L = m k

section
variable {w w' : World} {b n : Nat} {m : Int → Option Value}
theorem Mi.lt (h : Mi w b n m) : b < w.heap.size := by
  obtain ⟨L, c, hb, _⟩ := h
  exact (Array.getElem?_eq_some_iff.1 hb).1
theorem Mi.keep (h : Mi w b n m) (hk : w'.heap[b]? = w.heap[b]?) : Mi w' b n m := by
  obtain ⟨L, c, hb, r⟩ := h
  exact ⟨L, c, hk.trans hb, r⟩
theorem Mi.mono (h : Mi w b n m) {n' : Nat} (hn : n ≤ n') : Mi w b n' m := by
  obtain ⟨L, c, hb, h1, h2, h3, h4, h5⟩ := h
  exact ⟨L, c, hb, h1, h2, h3, Nat.le_trans h4 hn, h5⟩
theorem Mi.made (w : World) : Mi (w.alloc (.map #[] 0)) w.heap.size 0 (fun _ => none) :=
  ⟨[], 0, heap_alloc_new w _, (fun x hx => by cases hx), List.Pairwise.nil, List.Pairwise.nil, Nat.le_refl _, fun _ => rfl⟩

/-- 'm[k]', 'v, ok := m[k]' -/
theorem Mi.look (h : Mi w b n m) {t e : TypeId} (ht : Try.prog.underlying t = some (.map 2 e)) (k : Int) {z : Value} (hz : (zeroValue e).run Try.prog w = .ok z w) :
    (Instr.lookup t (.map (some b)) (.int .i64 k) true).run Try.prog w = .ok (.tuple #[(m k).getD z, .bool (m k).isSome]) w ∧ (Instr.lookup t (.map (some b)) (.int .i64 k) false).run Try.prog w = .ok ((m k).getD z) w := by
  obtain ⟨L, c, hb, _, _, _, _, h5⟩ := h
  have hf := run_find_i k w L
  have he := fnd_el_i k L 0
  rw [h5] at he
  have hl : (ensi L).toList = L.map Eni.at := by simp [ensi]
  cases hx : fndI k L 0 with
  | none =>
    rw [hx] at he hf
    have he : m k = none := he.symm
    rw [he]
    constructor <;> simp [Instr.lookup, run_underlying ht, MapKept.run_getObj_map hb, run_check_i, hl, hf, hz, Result.andThen]
  | some p =>
    rw [hx] at he hf
    obtain ⟨i, v⟩ := p
    have he : m k = some v := he.symm
    rw [he]
    constructor <;> simp [Instr.lookup, run_underlying ht, MapKept.run_getObj_map hb, run_check_i, hl, hf, Result.andThen]

/-- 'len(m)' tells how many -/
theorem run_stays_i (k : Int) (w : World) : (Instr.keyThatStays (.int .i64 k) (.int .i64 k)).run Try.prog w = .ok (.int .i64 k) w := by
  have e : ∀ N, Instr.sameBits (N + 2) (.int .i64 k) (.int .i64 k) = true := fun N => by simp [Instr.sameBits]
  unfold Instr.keyThatStays
  rw [show (10000 : Nat) = 9998 + 2 from rfl, e 9998, if_pos rfl]
  rfl

/-- 'm[k] = v' -/
theorem Mi.put (h : Mi w b n m) {t e : TypeId} (ht : Try.prog.underlying t = some (.map 2 e)) (k : Int) (v : Value) :
    ∃ w', (Instr.mapUpdate t (.map (some b)) (.int .i64 k) v).run Try.prog w = .ok () w' ∧ Mi w' b (n + 1) (fun k' => if k' = k then some v else m k') ∧ w.grownBy w' (some b) := by
  obtain ⟨L, c, hb, h1, h2, h3, h4, h5⟩ := h
  have hf := run_find_i k w L
  have hl : (ensi L).toList = L.map Eni.at := by simp [ensi]
  cases hx : fndI k L 0 with
  | none =>
    rw [hx] at hf
    have hno := fnd_none_i hx
    have hes : (ensi L).push ⟨.int .i64 k, v, c⟩ = ensi (L ++ [⟨k, v, c⟩]) := by simp [ensi, Eni.at]
    refine ⟨setBlock w b (.map (ensi (L ++ [⟨k, v, c⟩])) (c + 1)), ?_, ⟨L ++ [⟨k, v, c⟩], c + 1, heap_setBlock_same hb _, ?_, ?_, ?_, by simp; omega, fun k' => ?_⟩, ⟨rfl, rfl, rfl, by simp [setBlock], fun i _ hi => heap_setBlock_other hb _ (fun e => hi (by rw [e]))⟩⟩
    · simp [Instr.mapUpdate, run_underlying ht, MapKept.run_getObj_map hb, run_check_i, hl, hf, MapKept.run_setObj_map _ hb, Result.andThen, hes, setBlock]
    · intro x hx
      rcases List.mem_append.1 hx with hx | hx
      · have := h1 x hx; omega
      · rw [List.mem_singleton] at hx; subst hx; show c < c + 1; omega
    · refine List.pairwise_append.2 ⟨h2, List.pairwise_singleton _ _, fun x hx y hy => ?_⟩
      rw [List.mem_singleton] at hy; subst hy
      exact hno x hx
    · refine List.pairwise_append.2 ⟨h3, List.pairwise_singleton _ _, fun x hx y hy => ?_⟩
      rw [List.mem_singleton] at hy; subst hy
      have := h1 x hx
      show x.born ≠ c
      omega
    · rw [el_app_i, el_cons_i, h5]
      dsimp only
      by_cases e : k' = k
      · subst e
        rw [if_pos rfl, if_pos rfl, ← h5, el_none_i hno]
        rfl
      · rw [if_neg e, if_neg e]
        show (m k').or none = m k'
        cases m k' <;> rfl
  | some p =>
    rw [hx] at hf
    obtain ⟨i, v0⟩ := p
    obtain ⟨_, A, x, B, rfl, hA, rfl, rfl, hno⟩ := fnd_at_i _ L 0 i v0 hx
    have hi : i = A.length := by omega
    subst hi
    have hget : (ensi (A ++ x :: B))[A.length]? = some x.at := by simp [ensi]
    have hmod : (ensi (A ++ x :: B)).modify A.length (fun e => { e with key := .int .i64 x.k, val := v }) = ensi (A ++ ⟨x.k, v, x.born⟩ :: B) := by
      apply Array.ext'
      have e := modify_mid_i (fun e : MapEntry => { e with key := .int .i64 x.k, val := v }) x.at (B.map Eni.at) (A.map Eni.at)
      rw [List.length_map] at e
      simpa [ensi, Array.toList_modify, Eni.at] using e
    refine ⟨setBlock w b (.map (ensi (A ++ ⟨x.k, v, x.born⟩ :: B)) c), ?_, ⟨A ++ ⟨x.k, v, x.born⟩ :: B, c, heap_setBlock_same hb _, ?_, ?_, ?_, by simp at h4 ⊢; omega, fun k' => ?_⟩, ⟨rfl, rfl, rfl, by simp [setBlock], fun i _ hi => heap_setBlock_other hb _ (fun e => hi (by rw [e]))⟩⟩
    · simp only [Instr.mapUpdate, Sem.run_bind, run_underlying ht, Result.andThen_ok, MapKept.run_getObj_map hb, run_check_i, hl, hf, hget]
      show ((Instr.keyThatStays (.int .i64 x.k) (.int .i64 x.k)).run Try.prog w).andThen _ = _
      simp only [run_stays_i, Result.andThen_ok, hmod, MapKept.run_setObj_map _ hb]
      rfl
    · intro y hy
      simp only [List.mem_append, List.mem_cons] at hy
      rcases hy with hy | rfl | hy
      · exact h1 y (by simp [hy])
      · exact h1 x (by simp)
      · exact h1 y (by simp [hy])
    · have h2 := List.pairwise_append.1 h2
      have h2c := List.pairwise_cons.1 h2.2.1
      refine List.pairwise_append.2 ⟨h2.1, List.pairwise_cons.2 ⟨h2c.1, h2c.2⟩, fun y hy z hz => ?_⟩
      rcases List.mem_cons.1 hz with rfl | hz
      · exact h2.2.2 y hy x (by simp)
      · exact h2.2.2 y hy z (by simp [hz])
    · have h2 := List.pairwise_append.1 h3
      have h2c := List.pairwise_cons.1 h2.2.1
      refine List.pairwise_append.2 ⟨h2.1, List.pairwise_cons.2 ⟨h2c.1, h2c.2⟩, fun y hy z hz => ?_⟩
      rcases List.mem_cons.1 hz with rfl | hz
      · exact h2.2.2 y hy x (by simp)
      · exact h2.2.2 y hy z (by simp [hz])
    · have := h5 k'
      rw [el_app_i, el_cons_i] at this ⊢
      dsimp only
      by_cases e : k' = x.k
      · subst e
        rw [el_none_i hno, if_pos rfl, if_pos rfl]
        rfl
      · rw [if_neg e] at this ⊢
        rw [if_neg e]
        exact this

/-- 'delete(m, k)' -/
theorem Mi.del (h : Mi w b n m) {t e : TypeId} (ht : Try.prog.underlying t = some (.map 2 e)) (k : Int) (ty : TypeId) :
    ∃ w', (Builtin.delete_ #[t, 2] ty #[.map (some b), .int .i64 k]).run Try.prog w = .ok (.tuple #[]) w' ∧ Mi w' b n (fun k' => if k' = k then none else m k') ∧ w.grownBy w' (some b) := by
  obtain ⟨L, c, hb, h1, h2, h3, h4, h5⟩ := h
  have hf := run_find_i k w L
  have hl : (ensi L).toList = L.map Eni.at := by simp [ensi]
  cases hx : fndI k L 0 with
  | none =>
    rw [hx] at hf
    have hno := fnd_none_i hx
    refine ⟨setBlock w b (.map (ensi L) c), ?_, ⟨L, c, heap_setBlock_same hb _, h1, h2, h3, h4, fun k' => ?_⟩, ⟨rfl, rfl, rfl, by simp [setBlock], fun i _ hi => heap_setBlock_other hb _ (fun e => hi (by rw [e]))⟩⟩
    · simp [Builtin.delete_, run_underlying ht, MapKept.run_getObj_map hb, run_check_i, hl, hf, MapKept.run_setObj_map _ hb, Result.andThen, setBlock]
    · dsimp only
      by_cases e : k' = k
      · subst e
        rw [if_pos rfl]
        exact el_none_i hno
      · rw [if_neg e]; exact h5 k'
  | some p =>
    rw [hx] at hf
    obtain ⟨i, v0⟩ := p
    obtain ⟨_, A, x, B, rfl, hA, rfl, rfl, hno⟩ := fnd_at_i _ L 0 i v0 hx
    have hi : i = A.length := by omega
    subst hi
    have her : (ensi (A ++ x :: B)).eraseIdxIfInBounds A.length = ensi (A ++ B) := by
      apply Array.ext'
      simp [ensi, Array.eraseIdxIfInBounds, List.eraseIdx_append_of_length_le]
    have hsub : (A ++ B).Sublist (A ++ x :: B) := List.Sublist.append (List.Sublist.refl _) (List.sublist_cons_self _ _)
    refine ⟨setBlock w b (.map (ensi (A ++ B)) c), ?_, ⟨A ++ B, c, heap_setBlock_same hb _, fun y hy => h1 y (hsub.subset hy), h2.sublist hsub, h3.sublist hsub, by simp at h4 ⊢; omega, fun k' => ?_⟩, ⟨rfl, rfl, rfl, by simp [setBlock], fun i _ hi => heap_setBlock_other hb _ (fun e => hi (by rw [e]))⟩⟩
    · rw [List.map_append, List.map_cons] at hf
      simp [Builtin.delete_, run_underlying ht, MapKept.run_getObj_map hb, run_check_i, hl, hf, her, MapKept.run_setObj_map _ hb, Result.andThen, setBlock]
    · have := h5 k'
      rw [el_app_i, el_cons_i] at this
      rw [el_app_i]
      dsimp only
      by_cases e : k' = x.k
      · subst e
        rw [if_pos rfl, el_none_i hno]
        have hB : ∀ y ∈ B, y.k ≠ x.k := fun y hy => Ne.symm ((List.pairwise_cons.1 (List.pairwise_append.1 h2).2.1).1 y hy)
        rw [el_none_i hB]
        rfl
      · rw [if_neg e] at this ⊢
        exact this
end

end Go.Proofs.Ythbnbifagenpiaa
