/-
  Maps keyed by api.Key, whatever their elements: looked up, stored, deleted. The entries as they lie, keys and elements.
  Maps keyed by api.Key, at the operations, for the walk; and ranged over.
-/
import Derived.Test.YtmlocdfjjgbnjaaClRef1
import Derived.Maps.OwnSet
import Derived.Maps.RangeRun
namespace Go.Proofs.Ytmlocdfjjgbnjaa
open Go.RowKit
open Go.ChangeMaps (setBlock heap_setBlock_same heap_setBlock_other)

/-- an entry: its key, its element, when it came -/
structure En where
  k : Cl.Ky
  v : Value
  born : Nat
def En.at (x : En) : MapEntry := ⟨keyA x.k, x.v, x.born⟩
def ens (L : List En) : Array MapEntry := (L.map En.at).toArray

/-- where a key stands -/
def fndK (k : Cl.Ky) : List En → Nat → Option (Nat × Value)
  | [], _ => none
  | x :: r, i => if Cl.same k x.k = true then some (i, x.v) else fndK k r (i + 1)
/-- its element -/
def elK (k : Cl.Ky) : List En → Option Value
  | [] => none
  | x :: r => if Cl.same k x.k = true then some x.v else elK k r

set_option maxRecDepth 100000 in
theorem run_equal_key (x y : Cl.Ky) (w : World) : (Op.equal 50 (keyA x) (keyA y)).run Try.prog w = .ok (Cl.same x y) w := by
  unfold Op.equal Op.maxDepth keyA
  exact equalIn_key 9998 x y w
theorem run_asking (k : Cl.Ky) (w : World) : ∀ (L : List En) (i : Nat), (Instr.findAsking 50 (keyA k) (L.map En.at) i).run Try.prog w = .ok (fndK k L i) w := by
  intro L
  induction L with
  | nil => intro i; rfl
  | cons x r ih =>
    intro i
    simp only [List.map_cons, Instr.findAsking, Sem.run_bind]
    rw [show (En.at x).key = keyA x.k from rfl, run_equal_key]
    simp only [Result.andThen_ok]
    unfold fndK
    cases Cl.same k x.k with
    | true => rfl
    | false => exact ih (i + 1)
theorem run_find (k : Cl.Ky) (L : List En) (w : World) : (Instr.findKey 50 (keyA k) (L.map En.at)).run Try.prog w = .ok (fndK k L 0) w := by
  unfold Instr.findKey
  simp only [Sem.run_bind, run_underlying undKy, Result.andThen_ok]
  cases L with
  | nil => rfl
  | cons x r =>
    have e : Instr.findNow (TypeDesc.struct (Try.prog.fieldsOf 50)) (keyA k) ((x :: r).map En.at) 0 = none := rfl
    rw [e]
    exact run_asking k w (x :: r) 0
set_option maxRecDepth 100000 in
theorem run_check_any (em : Bool) (k : Cl.Ky) (n : Nat) (w : World) : (Instr.checkKey em (n + 2) 50 (keyA k)).run Try.prog w = .ok () w := by
  obtain ⟨f0, f1, f2, hf, h0, h1, h2⟩ : ∃ f0 f1 f2 : Field, Try.prog.fieldsOf 50 = #[f0, f1, f2] ∧ (f0.name, f0.type, f0.offset) = ("Kind", 3, 0) ∧ (f1.name, f1.type, f1.offset) = ("A", 3, 1) ∧ (f2.name, f2.type, f2.offset) = ("B", 3, 2) :=
    ⟨_, _, _, rfl, rfl, rfl, rfl⟩
  simp only [Prod.mk.injEq] at h0 h1 h2
  have hu : Try.prog.underlying 50 = some (.struct #[f0, f1, f2]) := by rw [undKy, hf]
  have p0 := fun (w : World) => run_part10 (P := Try.prog) (t := 3) Try.underlying3 rfl (xs := #[.int .i64 k.kind, .int .i64 k.a, .int .i64 k.b]) (off := 0) (v := .int .i64 k.kind) rfl w
  have p1 := fun (w : World) => run_part10 (P := Try.prog) (t := 3) Try.underlying3 rfl (xs := #[.int .i64 k.kind, .int .i64 k.a, .int .i64 k.b]) (off := 1) (v := .int .i64 k.a) rfl w
  have p2 := fun (w : World) => run_part10 (P := Try.prog) (t := 3) Try.underlying3 rfl (xs := #[.int .i64 k.kind, .int .i64 k.a, .int .i64 k.b]) (off := 2) (v := .int .i64 k.b) rfl w
  have ci : ∀ (z : Int) (w : World), (Instr.checkKey em (n + 1) 3 (.int .i64 z)).run Try.prog w = .ok () w := fun z w => by
    simp only [Instr.checkKey, Sem.run_bind, run_underlying Try.underlying3, Result.andThen_ok, Sem.run_pure]
  have n0 : "Kind" ≠ "_" := by decide
  have n1 : "A" ≠ "_" := by decide
  have n2 : "B" ≠ "_" := by decide
  unfold keyA Instr.checkKey
  simp only [Sem.run_bind, run_underlying hu, Result.andThen_ok]
  simp [h0, h1, h2, n0, n1, n2, p0, p1, p2, ci]
theorem run_check (em : Bool) (k : Cl.Ky) (w : World) : (Instr.checkKey em 10000 50 (keyA k)).run Try.prog w = .ok () w := run_check_any em k 9998 w

/-! ### what stands where -/
theorem fnd_el (k : Cl.Ky) : ∀ (L : List En) (i : Nat), (fndK k L i).map Prod.snd = elK k L := by
  intro L
  induction L with
  | nil => intro i; rfl
  | cons x r ih =>
    intro i
    unfold fndK elK
    cases Cl.same k x.k with
    | true => rfl
    | false => exact ih (i + 1)
theorem fnd_at (k : Cl.Ky) : ∀ (L : List En) (i j : Nat) (v : Value), fndK k L i = some (j, v) → i ≤ j ∧ ∃ A x B, L = A ++ x :: B ∧ A.length = j - i ∧ x.k = k ∧ x.v = v ∧ ∀ y ∈ A, y.k ≠ k := by
  intro L
  induction L with
  | nil => intro i j v h; cases h
  | cons x r ih =>
    intro i j v h
    unfold fndK at h
    cases hs : Cl.same k x.k with
    | true =>
      rw [hs, if_pos rfl] at h
      cases h
      exact ⟨Nat.le_refl _, [], x, r, rfl, by simp, ((Cl.same_iff _ _).1 hs).symm, rfl, fun y hy => by cases hy⟩
    | false =>
      rw [hs, if_neg Bool.false_ne_true] at h
      obtain ⟨h1, A, y, B, rfl, h2, h3, h4, h5⟩ := ih (i + 1) j v h
      refine ⟨by omega, x :: A, y, B, rfl, by simp; omega, h3, h4, fun z hz => ?_⟩
      rcases List.mem_cons.1 hz with rfl | hz
      · intro e
        rw [e, Cl.same_self] at hs
        cases hs
      · exact h5 z hz
theorem fnd_none {k : Cl.Ky} {L : List En} {i : Nat} (h : fndK k L i = none) : ∀ y ∈ L, y.k ≠ k := by
  induction L generalizing i with
  | nil => intro y hy; cases hy
  | cons x r ih =>
    unfold fndK at h
    cases hs : Cl.same k x.k with
    | true => rw [hs, if_pos rfl] at h; cases h
    | false =>
      rw [hs, if_neg Bool.false_ne_true] at h
      intro y hy
      rcases List.mem_cons.1 hy with rfl | hy
      · intro e
        rw [e, Cl.same_self] at hs
        cases hs
      · exact ih h y hy
theorem el_none {k : Cl.Ky} {L : List En} (h : ∀ y ∈ L, y.k ≠ k) : elK k L = none := by
  induction L with
  | nil => rfl
  | cons x r ih =>
    unfold elK
    rw [Cl.same_no (fun e => h x (by simp) e.symm), if_neg Bool.false_ne_true]
    exact ih (fun y hy => h y (by simp [hy]))
theorem el_cons (k : Cl.Ky) (x : En) (B : List En) : elK k (x :: B) = if k = x.k then some x.v else elK k B := by
  show (if Cl.same k x.k = true then some x.v else elK k B) = _
  by_cases e : k = x.k
  · rw [if_pos e, if_pos ((Cl.same_iff _ _).2 e)]
  · rw [if_neg e, Cl.same_no e, if_neg Bool.false_ne_true]
theorem el_app (k : Cl.Ky) (A B : List En) : elK k (A ++ B) = (elK k A).or (elK k B) := by
  induction A with
  | nil => rfl
  | cons x r ih =>
    rw [List.cons_append, el_cons, el_cons, ih]
    by_cases e : k = x.k
    · rw [if_pos e, if_pos e]; rfl
    · rw [if_neg e, if_neg e]
theorem modify_mid {α : Type} (f : α → α) (x : α) (B : List α) : ∀ A : List α, (A ++ x :: B).modify A.length f = A ++ f x :: B
  | [] => by simp
  | y :: A => by
    have := modify_mid f x B A
    simpa using this

/-- block b is a map of at most n entries, whose elements are m -/
def Mk (w : World) (b n : Nat) (m : Cl.Ky → Option Value) : Prop :=
  ∃ L c, w.heap[b]? = some (.map (ens L) c) ∧ (∀ x ∈ L, x.born < c) ∧ L.Pairwise (fun x y => x.k ≠ y.k) ∧ L.Pairwise (fun x y => x.born ≠ y.born) ∧ L.length ≤ n ∧ ∀ k, elK k L = m k

section
variable {w w' : World} {b n : Nat} {m : Cl.Ky → Option Value}
theorem Mk.lt (h : Mk w b n m) : b < w.heap.size := by
  obtain ⟨L, c, hb, _⟩ := h
  exact (Array.getElem?_eq_some_iff.1 hb).1
theorem Mk.keep (h : Mk w b n m) (hk : w'.heap[b]? = w.heap[b]?) : Mk w' b n m := by
  obtain ⟨L, c, hb, r⟩ := h
  exact ⟨L, c, hk.trans hb, r⟩
theorem Mk.mono (h : Mk w b n m) {n' : Nat} (hn : n ≤ n') : Mk w b n' m := by
  obtain ⟨L, c, hb, h1, h2, h3, h4, h5⟩ := h
  exact ⟨L, c, hb, h1, h2, h3, Nat.le_trans h4 hn, h5⟩
theorem Mk.made (w : World) : Mk (w.alloc (.map #[] 0)) w.heap.size 0 (fun _ => none) :=
  ⟨[], 0, heap_alloc_new w _, (fun x hx => by cases hx), List.Pairwise.nil, List.Pairwise.nil, Nat.le_refl _, fun _ => rfl⟩

/-- 'm[k]', 'v, ok := m[k]' -/
theorem Mk.look (h : Mk w b n m) {t e : TypeId} (ht : Try.prog.underlying t = some (.map 50 e)) (k : Cl.Ky) {z : Value} (hz : (zeroValue e).run Try.prog w = .ok z w) :
    (Instr.lookup t (.map (some b)) (keyA k) true).run Try.prog w = .ok (.tuple #[(m k).getD z, .bool (m k).isSome]) w ∧ (Instr.lookup t (.map (some b)) (keyA k) false).run Try.prog w = .ok ((m k).getD z) w := by
  obtain ⟨L, c, hb, _, _, _, _, h5⟩ := h
  have hf := run_find k L w
  have he := fnd_el k L 0
  rw [h5] at he
  have hl : (ens L).toList = L.map En.at := by simp [ens]
  cases hx : fndK k L 0 with
  | none =>
    rw [hx] at he hf
    have he : m k = none := he.symm
    rw [he]
    constructor <;> simp [Instr.lookup, run_underlying ht, MapKept.run_getObj_map hb, run_check, hl, hf, hz, Result.andThen]
  | some p =>
    rw [hx] at he hf
    obtain ⟨i, v⟩ := p
    have he : m k = some v := he.symm
    rw [he]
    constructor <;> simp [Instr.lookup, run_underlying ht, MapKept.run_getObj_map hb, run_check, hl, hf, Result.andThen]

/-- 'len(m)' tells how many -/
theorem run_stays (k : Cl.Ky) (w : World) : (Instr.keyThatStays (keyA k) (keyA k)).run Try.prog w = .ok (keyA k) w := by
  have e : ∀ N, Instr.sameBits (N + 2) (keyA k) (keyA k) = true := fun N => by simp [keyA, Instr.sameBits]
  unfold Instr.keyThatStays
  rw [show (10000 : Nat) = 9998 + 2 from rfl, e 9998, if_pos rfl]
  rfl

/-- 'm[k] = v' -/
theorem Mk.put (h : Mk w b n m) {t e : TypeId} (ht : Try.prog.underlying t = some (.map 50 e)) (k : Cl.Ky) (v : Value) :
    ∃ w', (Instr.mapUpdate t (.map (some b)) (keyA k) v).run Try.prog w = .ok () w' ∧ Mk w' b (n + 1) (fun k' => if k' = k then some v else m k') ∧ w.grownBy w' (some b) := by
  obtain ⟨L, c, hb, h1, h2, h3, h4, h5⟩ := h
  have hf := run_find k L w
  have hl : (ens L).toList = L.map En.at := by simp [ens]
  cases hx : fndK k L 0 with
  | none =>
    rw [hx] at hf
    have hno := fnd_none hx
    have hes : (ens L).push ⟨keyA k, v, c⟩ = ens (L ++ [⟨k, v, c⟩]) := by simp [ens, En.at]
    refine ⟨setBlock w b (.map (ens (L ++ [⟨k, v, c⟩])) (c + 1)), ?_, ⟨L ++ [⟨k, v, c⟩], c + 1, heap_setBlock_same hb _, ?_, ?_, ?_, by simp; omega, fun k' => ?_⟩, ⟨rfl, rfl, rfl, by simp [setBlock], fun i _ hi => heap_setBlock_other hb _ (fun e => hi (by rw [e]))⟩⟩
    · simp [Instr.mapUpdate, run_underlying ht, MapKept.run_getObj_map hb, run_check, hl, hf, MapKept.run_setObj_map _ hb, Result.andThen, hes, setBlock]
    · intro x hx
      rcases List.mem_append.1 hx with hx | hx
      · have := h1 x hx; omega
      · rw [List.mem_singleton] at hx; subst hx; show c < c + 1; omega
    · refine List.pairwise_append.2 ⟨h2, List.pairwise_singleton _ _, fun x hx y hy => ?_⟩
      rw [List.mem_singleton] at hy; subst hy
      exact hno x hx
    · refine List.pairwise_append.2 ⟨h3, List.pairwise_singleton _ _, fun x hx y hy => ?_⟩
      rw [List.mem_singleton] at hy; subst hy
      have := h1 x hx
      show x.born ≠ c
      omega
    · rw [el_app, el_cons, h5]
      dsimp only
      by_cases e : k' = k
      · subst e
        rw [if_pos rfl, if_pos rfl, ← h5, el_none hno]
        rfl
      · rw [if_neg e, if_neg e]
        show (m k').or none = m k'
        cases m k' <;> rfl
  | some p =>
    rw [hx] at hf
    obtain ⟨i, v0⟩ := p
    obtain ⟨_, A, x, B, rfl, hA, rfl, rfl, hno⟩ := fnd_at _ L 0 i v0 hx
    have hi : i = A.length := by omega
    subst hi
    have hget : (ens (A ++ x :: B))[A.length]? = some x.at := by simp [ens]
    have hmod : (ens (A ++ x :: B)).modify A.length (fun e => { e with key := keyA x.k, val := v }) = ens (A ++ ⟨x.k, v, x.born⟩ :: B) := by
      apply Array.ext'
      have e := modify_mid (fun e : MapEntry => { e with key := keyA x.k, val := v }) x.at (B.map En.at) (A.map En.at)
      rw [List.length_map] at e
      simpa [ens, Array.toList_modify, En.at] using e
    refine ⟨setBlock w b (.map (ens (A ++ ⟨x.k, v, x.born⟩ :: B)) c), ?_, ⟨A ++ ⟨x.k, v, x.born⟩ :: B, c, heap_setBlock_same hb _, ?_, ?_, ?_, by simp at h4 ⊢; omega, fun k' => ?_⟩, ⟨rfl, rfl, rfl, by simp [setBlock], fun i _ hi => heap_setBlock_other hb _ (fun e => hi (by rw [e]))⟩⟩
    · simp only [Instr.mapUpdate, Sem.run_bind, run_underlying ht, Result.andThen_ok, MapKept.run_getObj_map hb, run_check, hl, hf, hget]
      show ((Instr.keyThatStays (keyA x.k) (keyA x.k)).run Try.prog w).andThen _ = _
      simp only [run_stays, Result.andThen_ok, hmod, MapKept.run_setObj_map _ hb]
      rfl
    · intro y hy
      simp only [List.mem_append, List.mem_cons] at hy
      rcases hy with hy | rfl | hy
      · exact h1 y (by simp [hy])
      · exact h1 x (by simp)
      · exact h1 y (by simp [hy])
    · have h2 := List.pairwise_append.1 h2
      have h2c := List.pairwise_cons.1 h2.2.1
      refine List.pairwise_append.2 ⟨h2.1, List.pairwise_cons.2 ⟨h2c.1, h2c.2⟩, fun y hy z hz => ?_⟩
      rcases List.mem_cons.1 hz with rfl | hz
      · exact h2.2.2 y hy x (by simp)
      · exact h2.2.2 y hy z (by simp [hz])
    · have h2 := List.pairwise_append.1 h3
      have h2c := List.pairwise_cons.1 h2.2.1
      refine List.pairwise_append.2 ⟨h2.1, List.pairwise_cons.2 ⟨h2c.1, h2c.2⟩, fun y hy z hz => ?_⟩
      rcases List.mem_cons.1 hz with rfl | hz
      · exact h2.2.2 y hy x (by simp)
      · exact h2.2.2 y hy z (by simp [hz])
    · have := h5 k'
      rw [el_app, el_cons] at this ⊢
      dsimp only
      by_cases e : k' = x.k
      · subst e
        rw [el_none hno, if_pos rfl, if_pos rfl]
        rfl
      · rw [if_neg e] at this ⊢
        rw [if_neg e]
        exact this

/-- 'delete(m, k)' -/
theorem Mk.del (h : Mk w b n m) {t e : TypeId} (ht : Try.prog.underlying t = some (.map 50 e)) (k : Cl.Ky) (ty : TypeId) :
    ∃ w', (Builtin.delete_ #[t, 50] ty #[.map (some b), keyA k]).run Try.prog w = .ok (.tuple #[]) w' ∧ Mk w' b n (fun k' => if k' = k then none else m k') ∧ w.grownBy w' (some b) := by
  obtain ⟨L, c, hb, h1, h2, h3, h4, h5⟩ := h
  have hf := run_find k L w
  have hl : (ens L).toList = L.map En.at := by simp [ens]
  cases hx : fndK k L 0 with
  | none =>
    rw [hx] at hf
    have hno := fnd_none hx
    refine ⟨setBlock w b (.map (ens L) c), ?_, ⟨L, c, heap_setBlock_same hb _, h1, h2, h3, h4, fun k' => ?_⟩, ⟨rfl, rfl, rfl, by simp [setBlock], fun i _ hi => heap_setBlock_other hb _ (fun e => hi (by rw [e]))⟩⟩
    · simp [Builtin.delete_, run_underlying ht, MapKept.run_getObj_map hb, run_check, hl, hf, MapKept.run_setObj_map _ hb, Result.andThen, setBlock]
    · dsimp only
      by_cases e : k' = k
      · subst e
        rw [if_pos rfl]
        exact el_none hno
      · rw [if_neg e]; exact h5 k'
  | some p =>
    rw [hx] at hf
    obtain ⟨i, v0⟩ := p
    obtain ⟨_, A, x, B, rfl, hA, rfl, rfl, hno⟩ := fnd_at _ L 0 i v0 hx
    have hi : i = A.length := by omega
    subst hi
    have her : (ens (A ++ x :: B)).eraseIdxIfInBounds A.length = ens (A ++ B) := by
      apply Array.ext'
      simp [ens, Array.eraseIdxIfInBounds, List.eraseIdx_append_of_length_le]
    have hsub : (A ++ B).Sublist (A ++ x :: B) := List.Sublist.append (List.Sublist.refl _) (List.sublist_cons_self _ _)
    refine ⟨setBlock w b (.map (ens (A ++ B)) c), ?_, ⟨A ++ B, c, heap_setBlock_same hb _, fun y hy => h1 y (hsub.subset hy), h2.sublist hsub, h3.sublist hsub, by simp at h4 ⊢; omega, fun k' => ?_⟩, ⟨rfl, rfl, rfl, by simp [setBlock], fun i _ hi => heap_setBlock_other hb _ (fun e => hi (by rw [e]))⟩⟩
    · rw [List.map_append, List.map_cons] at hf
      simp [Builtin.delete_, run_underlying ht, MapKept.run_getObj_map hb, run_check, hl, hf, her, MapKept.run_setObj_map _ hb, Result.andThen, setBlock]
    · have := h5 k'
      rw [el_app, el_cons] at this
      rw [el_app]
      dsimp only
      by_cases e : k' = x.k
      · subst e
        rw [if_pos rfl, el_none hno]
        have hB : ∀ y ∈ B, y.k ≠ x.k := fun y hy => Ne.symm ((List.pairwise_cons.1 (List.pairwise_append.1 h2).2.1).1 y hy)
        rw [el_none hB]
        rfl
      · rw [if_neg e] at this ⊢
        exact this
end

end Go.Proofs.Ytmlocdfjjgbnjaa

namespace Go.Proofs.Ytmlocdfjjgbnjaa
open Go.RowKit
open Go.ChangeMaps (setBlock heap_setBlock_same heap_setBlock_other)

section
variable {ops : Array Oper} {rest : List Oper} {o : Oper} {a : Act} {Q : Exit → Act → World → Prop} {w : World} {b n : Nat} {m : Cl.Ky → Option Value}

theorem wpList_look_ok (hg : o.guard = none) (mo x : Operand) (t e : TypeId) (hop : o.op = Op.lookup t mo x true) (ht : Try.prog.underlying t = some (.map 50 e)) {z : Value} (hz : (zeroValue e).run Try.prog w = .ok z w)
    (hm : a.eval mo = .map (some b)) (h : Mk w b n m) (k : Cl.Ky) (hx : a.eval x = keyA k) (hK : wpList Try.prog ops Q rest (a.put o.dst (.tuple #[(m k).getD z, .bool (m k).isSome])) w) : wpList Try.prog ops Q (o :: rest) a w := by
  refine wpList_plain hg fun K' hK' => ?_
  unfold Oper.wp
  simp [execOp, hop, hm, hx, (h.look ht k hz).1, Result.andThen]
  exact hK' _ _ hK
theorem wpList_look (hg : o.guard = none) (mo x : Operand) (t e : TypeId) (hop : o.op = Op.lookup t mo x false) (ht : Try.prog.underlying t = some (.map 50 e)) {z : Value} (hz : (zeroValue e).run Try.prog w = .ok z w)
    (hm : a.eval mo = .map (some b)) (h : Mk w b n m) (k : Cl.Ky) (hx : a.eval x = keyA k) (hK : wpList Try.prog ops Q rest (a.put o.dst ((m k).getD z)) w) : wpList Try.prog ops Q (o :: rest) a w := by
  refine wpList_plain hg fun K' hK' => ?_
  unfold Oper.wp
  simp [execOp, hop, hm, hx, (h.look ht k hz).2, Result.andThen]
  exact hK' _ _ hK
theorem wpList_put (hg : o.guard = none) (mo x v : Operand) (t e : TypeId) (hop : o.op = Op.mapUpdate t mo x v) (ht : Try.prog.underlying t = some (.map 50 e))
    (hm : a.eval mo = .map (some b)) (h : Mk w b n m) (k : Cl.Ky) (u : Value) (hx : a.eval x = keyA k) (hv : a.eval v = u)
    (hK : ∀ w', Mk w' b (n + 1) (fun k' => if k' = k then some u else m k') → w.grownBy w' (some b) → wpList Try.prog ops Q rest (a.put o.dst undef) w') : wpList Try.prog ops Q (o :: rest) a w := by
  refine wpList_plain hg fun K' hK' => ?_
  obtain ⟨w', hrun, r1, r2⟩ := h.put ht k u
  unfold Oper.wp
  simp [execOp, hop, hm, hx, hv, hrun, Result.andThen]
  exact hK' _ _ (hK w' r1 r2)
theorem wpList_del (hg : o.guard = none) (mo x : Operand) (t e : TypeId) (hop : o.op = Op.call { callee := Callee.builtin Builtin.delete, args := #[mo, x], argTypes := #[t, 50] }) (ht : Try.prog.underlying t = some (.map 50 e))
    (hm : a.eval mo = .map (some b)) (h : Mk w b n m) (k : Cl.Ky) (hx : a.eval x = keyA k)
    (hK : ∀ w', Mk w' b n (fun k' => if k' = k then none else m k') → w.grownBy w' (some b) → wpList Try.prog ops Q rest (a.put o.dst (.tuple #[])) w') : wpList Try.prog ops Q (o :: rest) a w := by
  refine wpList_plain hg fun K' hK' => ?_
  obtain ⟨w', hrun, r1, r2⟩ := h.del ht k o.type
  unfold Oper.wp
  simp [execOp, hop, resolve, invoke, builtin, hm, hx, hrun, Result.andThen]
  exact hK' _ _ (hK w' r1 r2)
end

theorem heap_sb_same {w : World} {r : Nat} (o : Obj) (h : r < w.heap.size) : (setBlock w r o).heap[r]? = some o := by simp [setBlock, h]
theorem heap_sb_other {w : World} {r i : Nat} (o : Obj) (h : i ≠ r) : (setBlock w r o).heap[i]? = w.heap[i]? := by
  simp [setBlock, Array.getElem?_setIfInBounds_ne (Ne.symm h)]

/-- the map in block b is ranged over by the iterator in block r; T are still to come -/
def Rng (w : World) (b r n : Nat) (m : Cl.Ky → Option Value) (T : List En) : Prop :=
  ∃ L c since seen c0, w.heap[b]? = some (.map (ens L) c) ∧ w.heap[r]? = some (.mapIter (some b) since seen c0) ∧ (∀ x ∈ L, x.born < since) ∧ since ≤ c0 ∧ (∀ x ∈ L, x.born < c) ∧ L.Pairwise (fun x y => x.k ≠ y.k) ∧ L.Pairwise (fun x y => x.born ≠ y.born) ∧ L.length ≤ n ∧ (∀ k, elK k L = m k) ∧ since ≤ c ∧ T = L.filter (fun x => !seen.contains x.born)

section
variable {w w' : World} {b r n : Nat} {m : Cl.Ky → Option Value} {T : List En}
theorem Rng.map (h : Rng w b r n m T) : Mk w b n m := by
  obtain ⟨L, c, since, seen, c0, hb, _, _, _, h1, h2, h3, h4, h5, _⟩ := h
  exact ⟨L, c, hb, h1, h2, h3, h4, h5⟩
theorem Rng.keep (h : Rng w b r n m T) (h1 : w'.heap[b]? = w.heap[b]?) (h2 : w'.heap[r]? = w.heap[r]?) : Rng w' b r n m T := by
  obtain ⟨L, c, since, seen, c0, hb, hr, q⟩ := h
  exact ⟨L, c, since, seen, c0, h1.trans hb, h2.trans hr, q⟩
theorem Rng.lt (h : Rng w b r n m T) : b < w.heap.size ∧ r < w.heap.size := by
  obtain ⟨L, c, since, seen, c0, hb, hr, _⟩ := h
  exact ⟨(Array.getElem?_eq_some_iff.1 hb).1, (Array.getElem?_eq_some_iff.1 hr).1⟩
/-- at first: all of them, each once -/
theorem Mk.range (h : Mk w b n m) {t e : TypeId} (ht : Try.prog.underlying t = some (.map 50 e)) :
    ∃ w' T, (Instr.range t (.map (some b))).run Try.prog w = .ok (.pointer (some ⟨w.heap.size, 0, none⟩)) w' ∧ Rng w' b w.heap.size n m T ∧ T.length ≤ n ∧ T.Pairwise (fun x y => x.k ≠ y.k) ∧ (∀ k v, (∃ x ∈ T, x.k = k ∧ x.v = v) ↔ m k = some v) ∧ Below w.heap.size w w' := by
  obtain ⟨L, c, hb, h1, h2, h3, h4, h5⟩ := h
  have hbl := (Array.getElem?_eq_some_iff.1 hb).1
  refine ⟨w.alloc (.mapIter (some b) c #[] c), L, ?_, ⟨L, c, c, #[], c, ?_, heap_alloc_new w _, h1, Nat.le_refl _, h1, h2, h3, h4, h5, Nat.le_refl _, (List.filter_eq_self.2 (fun x _ => by simp)).symm⟩, h4, h2, fun k v => ?_, (Below.refl _ _).alloc (Nat.le_refl _) _⟩
  · simp [Instr.range, run_underlying ht, MapKept.run_getObj_map hb, Result.andThen, newObj]
    rfl
  · rw [((Below.refl w.heap.size w).alloc (Nat.le_refl _) (.mapIter (some b) c #[] c)).block b hbl]
    exact hb
  · rw [← h5]
    clear h5 h4 h3 h1 hb hbl
    induction L with
    | nil => simp [elK]
    | cons x B ih =>
      have h2 := List.pairwise_cons.1 h2
      rw [el_cons]
      by_cases e : k = x.k
      · subst e
        rw [if_pos rfl]
        constructor
        · rintro ⟨y, hy, hk, rfl⟩
          rcases List.mem_cons.1 hy with rfl | hy
          · rfl
          · exact absurd hk.symm (h2.1 y hy)
        · intro hv
          cases hv
          exact ⟨x, by simp, rfl, rfl⟩
      · rw [if_neg e, ← ih h2.2]
        constructor
        · rintro ⟨y, hy, rfl, rfl⟩
          rcases List.mem_cons.1 hy with rfl | hy
          · exact absurd rfl e
          · exact ⟨y, hy, rfl, rfl⟩
        · rintro ⟨y, hy, rfl, rfl⟩
          exact ⟨y, by simp [hy], rfl, rfl⟩
/-- a step of it -/
theorem Rng.next (h : Rng w b r n m T) (ty : TypeId) (hbr : b ≠ r) :
    (T = [] ∧ (Instr.next (.pointer (some ⟨r, 0, none⟩)) false ty).run Try.prog w = .ok (.tuple #[.bool false]) w) ∨
    ∃ A x B w', T = A ++ x :: B ∧ (Instr.next (.pointer (some ⟨r, 0, none⟩)) false ty).run Try.prog w = .ok (.tuple #[.bool true, keyA x.k, x.v]) w' ∧ Rng w' b r n m (A ++ B) ∧ w.grownBy w' (some r) ∧ (Instr.entry (.pointer (some ⟨r, 0, none⟩))).run Try.prog w' = .ok (.tuple #[keyA x.k, x.v]) w' := by
  obtain ⟨L, c, since, seen, c0, hb, hr, hs, hsc, h1, h2, h3, h4, h5, h6, rfl⟩ := h
  have hl : (ens L).toList = L.map En.at := by simp [ens]
  have hleft : leftOf (ens L) seen = ens (L.filter (fun x => !seen.contains x.born)) := by
    unfold leftOf ens
    apply Array.ext'
    simp [List.filter_map]
    rfl
  have hold : ∀ x ∈ (ens L).toList, x.born < since := fun x hx => by
    rw [hl] at hx
    obtain ⟨y, hy, rfl⟩ := List.mem_map.1 hx
    exact hs y hy
  rcases run_next_at (P := Try.prog) w ty r b since c0 seen (ens L) c hr hb hold hsc with ⟨h0, hrun⟩ | ⟨e, he, w1, hw1, hrun⟩
  · left
    rw [hleft] at h0
    refine ⟨?_, hrun⟩
    exact List.length_eq_zero_iff.1 (by simpa [ens] using h0)
  · right
    rw [hleft] at he
    have he : e ∈ (L.filter (fun x => !seen.contains x.born)).map En.at := by simpa [ens] using he
    obtain ⟨x, hx, rfl⟩ := List.mem_map.1 he
    obtain ⟨A, B, hAB⟩ := List.append_of_mem hx
    have hw1b : ∀ i : Nat, w1.heap[i]? = w.heap[i]? := fun i => by rcases hw1 with rfl | rfl <;> rfl
    have hr1 : r < w1.heap.size := (Array.getElem?_eq_some_iff.1 ((hw1b r).trans hr)).1
    refine ⟨A, x, B, _, hAB, hrun, ⟨L, c, since, seen.push x.born, c, ?_, heap_sb_same _ hr1, hs, h6, h1, h2, h3, h4, h5, h6, ?_⟩, ?_, ?_⟩
    · rw [heap_sb_other _ hbr]
      exact (hw1b b).trans hb
    · have e1 : L.filter (fun y => !(seen.push x.born).contains y.born) = (L.filter (fun y => !seen.contains y.born)).filter (fun y => decide (y.born ≠ x.born)) := by
        rw [List.filter_filter]
        congr 1
        funext y
        by_cases e : y.born = x.born <;> simp [e]
      have hp : (A ++ x :: B).Pairwise (fun x y => x.born ≠ y.born) := by
        rw [← hAB]
        exact h3.sublist List.filter_sublist
      have hp := List.pairwise_append.1 hp
      have hp2 := List.pairwise_cons.1 hp.2.1
      rw [e1, hAB, List.filter_append, List.filter_cons, if_neg (by simp), List.filter_eq_self.2 (fun y hy => ?_), List.filter_eq_self.2 (fun y hy => ?_)]
      · exact decide_eq_true (Ne.symm (hp2.1 y hy))
      · exact decide_eq_true (hp.2.2 y hy x (by simp))
    · refine ⟨?_, ?_, ?_, ?_, fun i _ hi => ?_⟩
      · rcases hw1 with rfl | rfl <;> rfl
      · rcases hw1 with rfl | rfl <;> rfl
      · rcases hw1 with rfl | rfl <;> rfl
      · rcases hw1 with rfl | rfl <;> simp [setBlock]
      · rw [heap_sb_other _ (fun e => hi (by rw [e]))]
        exact hw1b i
    · refine run_entry_at _ r b since seen (ens L) c x.at (heap_sb_same _ hr1) ((heap_sb_other _ hbr).trans ((hw1b b).trans hb)) ?_ ?_
      · rw [hl]
        exact List.mem_map.2 ⟨x, by
          have : x ∈ L.filter (fun x => !seen.contains x.born) := by rw [hAB]; simp
          exact (List.mem_filter.1 this).1, rfl⟩
      · rw [hl, List.map_map, List.Nodup, List.pairwise_map]
        exact h3
end
end Go.Proofs.Ytmlocdfjjgbnjaa
