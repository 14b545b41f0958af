/-
  Maps keyed by int64 ranged over, also while what came is deleted; the keys that came.
-/
import Derived.Test.YthbnbifagenpiaaDpMapW
import Derived.Test.YthbnbifagenpiaaRf
import Derived.Test.YthbnbifagenpiaaVrCells
import Derived.Sort.MapsRangeIn
import Derived.RangeFuncCalls
import Derived.Shelf.Abstract
import Derived.OwnWalkIn
import Derived.TacticsInMore
import Derived.LoopNIn
import Derived.LoopIn
namespace Go.Proofs.Ythbnbifagenpiaa
open Go.RowKit Go.Shelf
open Go.ChangeMaps (setBlock heap_setBlock_same heap_setBlock_other)

section
variable {F : Fence} {N : Nat} {ops : Array Oper} {rest : List Oper} {o : Oper} {a : Act} {Q : Exit → Act → World → Prop} {w : World} {b r n : Nat} {m : Int → Option Value} {T : List Eni}

theorem Rni.left_eq (h : Rni w b r n m T) : w.rangeLeft b r = T.length := by
  obtain ⟨L, c, since, seen, c0, hb, hr, _, _, _, _, _, _, _, _, rfl⟩ := h
  simp only [World.rangeLeft, hb, hr]
  have hleft : leftOf (ensi L) seen = ensi (L.filter (fun x => !seen.contains x.born)) := by
    unfold leftOf ensi
    apply Array.ext'
    simp [List.filter_map]
    rfl
  rw [hleft]
  simp [ensi]
theorem Rni.walks {w' : World} (h : Rni w b r n m T) (hk : KeepsWalks w w') : Rni w' b r n m T := by
  have h0 := h
  obtain ⟨L, c, since, seen, c0, hb, hr, _⟩ := h
  exact h0.keep ((hk.same b _ hb rfl).trans hb.symm) ((hk.same r _ hr rfl).trans hr.symm)
theorem Rni.iter (h : Rni w b r n m T) : ∃ o : Obj, w.heap[r]? = some o ∧ o.isWalk = true := by
  obtain ⟨L, c, since, seen, c0, _, hr, _⟩ := h
  exact ⟨_, hr, rfl⟩

theorem wpListIn_range_k_i (hg : o.guard = none) (mo : Operand) (t e : TypeId) (hop : o.op = Op.range t mo) (ht : Try.prog.underlying t = some (.map 2 e)) (hm : a.eval mo = .map (some b)) (h : Mi w b n m)
    (hK : ∀ w' T, Rni w' b w.heap.size n m T → T.length ≤ n → T.Pairwise (fun x y => x.k ≠ y.k) → (∀ k v, (∃ x ∈ T, x.k = k ∧ x.v = v) ↔ m k = some v) → Below w.heap.size w w' → wpListIn F N Try.prog ops Q rest (a.put o.dst (.pointer (some ⟨w.heap.size, 0, none⟩))) w') :
    wpListIn F N Try.prog ops Q (o :: rest) a w := by
  refine wpListIn_plain hg fun K' hK' => ?_
  obtain ⟨w', T, hrun, r1, r2, r3, r4, r5⟩ := h.range ht
  unfold Oper.wpIn
  refine ⟨by simp [Oper.about, hop], ?_⟩
  rw [Oper.semAt_plain F _ _ (by rw [hop]; intro c hc'; cases hc')]
  simp [execOp, hop, hm, hrun, Result.andThen]
  exact hK' _ _ (hK w' T r1 r2 r3 r4 r5)
theorem wpListIn_next_k_i (hg : o.guard = none) (it : Operand) (hop : o.op = Op.next it false) (hit : a.eval it = .pointer (some ⟨r, 0, none⟩)) (h : Rni w b r n m T) (hbr : b ≠ r)
    (hDone : T = [] → wpListIn F N Try.prog ops Q rest (a.put o.dst (.tuple #[.bool false])) w)
    (hMore : ∀ A x B w', T = A ++ x :: B → Rni w' b r n m (A ++ B) → w.grownBy w' (some r) → (Instr.entry (.pointer (some ⟨r, 0, none⟩))).run Try.prog w' = .ok (.tuple #[.int .i64 x.k, x.v]) w' → wpListIn F N Try.prog ops Q rest (a.put o.dst (.tuple #[.bool true, .int .i64 x.k, x.v])) w') :
    wpListIn F N Try.prog ops Q (o :: rest) a w := by
  refine wpListIn_plain hg fun K' hK' => ?_
  unfold Oper.wpIn
  refine ⟨by simp [Oper.about, hop], ?_⟩
  rw [Oper.semAt_plain F _ _ (by rw [hop]; intro c hc'; cases hc')]
  rcases h.next o.type hbr with ⟨h0, hrun⟩ | ⟨A, x, B, w', h0, hrun, h1, h2, h3⟩
  · simp [execOp, hop, hit, hrun, Result.andThen]
    exact hK' _ _ (hDone h0)
  · simp [execOp, hop, hit, hrun, Result.andThen]
    exact hK' _ _ (hMore A x B w' h0 h1 h2 h3)
end

/-- the keys that came, and those still to come -/
structure Goti (m : Int → Option Value) (ks : List Int) (T : List Eni) : Prop where
  nod : (ks ++ T.map Eni.k).Nodup
  all : ∀ k, k ∈ ks ++ T.map Eni.k ↔ (m k).isSome = true

theorem Goti.start {m : Int → Option Value} {T : List Eni} (h1 : T.Pairwise (fun x y => x.k ≠ y.k)) (h2 : ∀ k v, (∃ x ∈ T, x.k = k ∧ x.v = v) ↔ m k = some v) : Goti m [] T := by
  refine ⟨?_, fun k => ?_⟩
  · rw [List.nil_append, List.Nodup, List.pairwise_map]
    exact h1
  · rw [List.nil_append, List.mem_map]
    constructor
    · rintro ⟨x, hx, rfl⟩
      rw [(h2 x.k x.v).1 ⟨x, hx, rfl, rfl⟩]
      rfl
    · intro h
      obtain ⟨v, hv⟩ := Option.isSome_iff_exists.1 h
      obtain ⟨x, hx, hk, _⟩ := (h2 k v).2 hv
      exact ⟨x, hx, hk⟩
theorem Goti.step {m : Int → Option Value} {ks : List Int} {A B : List Eni} {x : Eni} (h : Goti m ks (A ++ x :: B)) : Goti m (ks ++ [x.k]) (A ++ B) := by
  have hp : (ks ++ (A ++ x :: B).map Eni.k).Perm (ks ++ [x.k] ++ (A ++ B).map Eni.k) := by
    rw [List.append_assoc]
    refine List.Perm.append_left ks ?_
    simp only [List.map_append, List.map_cons, List.singleton_append]
    exact List.perm_middle
  exact ⟨hp.nodup_iff.1 h.nod, fun k => by rw [← hp.mem_iff]; exact h.all k⟩
/-- what is given: each key once -/
structure Ksi (m : Int → Option Value) (ks : List Int) : Prop where
  nod : ks.Nodup
  all : ∀ k, k ∈ ks ↔ (m k).isSome = true
theorem Goti.fin {m : Int → Option Value} {ks : List Int} (h : Goti m ks []) : Ksi m ks := ⟨by simpa using h.nod, fun k => by simpa using h.all k⟩

theorem Mi.below {w w' : World} {b n : Nat} {m : Int → Option Value} (h : Mi w b n m) (hb : Below w.heap.size w w') : Mi w' b n m := by
  obtain ⟨L, c, hbl, rest⟩ := h
  exact ⟨L, c, (hb.block b (Array.getElem?_eq_some_iff.1 hbl).1).trans hbl, rest⟩


/-! ### how many; ranged over in a walk; deleted from while it is ranged over -/
section
variable {ops : Array Oper} {rest : List Oper} {o : Oper} {a : Act} {Q : Exit → Act → World → Prop} {w w' : World} {b r n : Nat} {m : Int → Option Value} {T : List Eni}

theorem el_some_i {k : Int} {L : List Eni} {x : Eni} (hx : x ∈ L) (hp : L.Pairwise (fun x y => x.k ≠ y.k)) (e : x.k = k) : elI k L = some x.v := by
  induction L with
  | nil => cases hx
  | cons y B ih =>
    have hp := List.pairwise_cons.1 hp
    rw [el_cons_i]
    rcases List.mem_cons.1 hx with rfl | hx
    · rw [if_pos e.symm]
    · rw [if_neg (fun q => hp.1 x hx (by rw [e, q]))]
      exact ih hx hp.2
theorem Mi.len (h : Mi w b n m) {t e : TypeId} (ht : Try.prog.underlying t = some (.map 2 e)) (ty : TypeId) :
    ∃ z : Nat, (Builtin.len_ #[t] ty #[.map (some b)]).run Try.prog w = .ok (.int .i64 (z : Int)) w ∧ (z = 0 ↔ ∀ k, m k = none) := by
  obtain ⟨L, c, hb, h1, h2, h3, h4, h5⟩ := h
  refine ⟨L.length, ?_, ?_⟩
  · have : (ensi L).size = L.length := by simp [ensi]
    rw [← this]
    simp [Builtin.len_, run_underlying ht, MapKept.run_getObj_map hb, goInt, Result.andThen]
  · constructor
    · intro e k
      rw [List.length_eq_zero_iff] at e
      subst e
      rw [← h5]; rfl
    · intro hk
      cases L with
      | nil => rfl
      | cons x B =>
        have := h5 x.k
        rw [hk, el_cons_i, if_pos rfl] at this
        cases this
theorem Rni.mem (h : Rni w b r n m T) {x : Eni} (hx : x ∈ T) : m x.k = some x.v := by
  obtain ⟨L, c, since, seen, c0, hb, hr, hs, hsc, h1, h2, h3, h4, h5, h6, rfl⟩ := h
  rw [← h5]
  exact el_some_i (List.mem_filter.1 hx).1 h2 rfl
theorem Rni.apart (h : Rni w b r n m T) : T.Pairwise (fun x y => x.k ≠ y.k) := by
  obtain ⟨L, c, since, seen, c0, hb, hr, hs, hsc, h1, h2, h3, h4, h5, h6, rfl⟩ := h
  exact h2.sublist List.filter_sublist
/-- 'delete(m, k)' of one that isn't still to come -/
theorem Rni.del (h : Rni w b r n m T) (hbr : b ≠ r) {t e : TypeId} (ht : Try.prog.underlying t = some (.map 2 e)) (k : Int) (hk : ∀ x ∈ T, x.k ≠ k) (ty : TypeId) :
    ∃ w', (Builtin.delete_ #[t, 2] ty #[.map (some b), .int .i64 k]).run Try.prog w = .ok (.tuple #[]) w' ∧ Rni w' b r n (fun k' => if k' = k then none else m k') T ∧ w.grownBy w' (some b) := by
  obtain ⟨L, c, since, seen, c0, hb, hr, hs, hsc, h1, h2, h3, h4, h5, h6, rfl⟩ := h
  have hf := run_find_i k w L
  have hl : (ensi L).toList = L.map Eni.at := by simp [ensi]
  cases hx : fndI k L 0 with
  | none =>
    rw [hx] at hf
    have hno := fnd_none_i hx
    refine ⟨setBlock w b (.map (ensi L) c), ?_, ⟨L, c, since, seen, c0, heap_setBlock_same hb _, (heap_setBlock_other hb _ (Ne.symm hbr)).trans hr, hs, hsc, h1, h2, h3, h4, fun k' => ?_, h6, rfl⟩, ⟨rfl, rfl, rfl, by simp [setBlock], fun i _ hi => heap_setBlock_other hb _ (fun e => hi (by rw [e]))⟩⟩
    · simp [Builtin.delete_, run_underlying ht, MapKept.run_getObj_map hb, run_check_i, hl, hf, MapKept.run_setObj_map _ hb, Result.andThen, setBlock]
    · dsimp only
      by_cases e : k' = k
      · subst e
        rw [if_pos rfl]
        exact el_none_i hno
      · rw [if_neg e]; exact h5 k'
  | some p =>
    rw [hx] at hf
    obtain ⟨i, v0⟩ := p
    obtain ⟨_, A, x, B, rfl, hA, rfl, rfl, hno⟩ := fnd_at_i _ L 0 i v0 hx
    have hi : i = A.length := by omega
    subst hi
    have her : (ensi (A ++ x :: B)).eraseIdxIfInBounds A.length = ensi (A ++ B) := by
      apply Array.ext'
      simp [ensi, Array.eraseIdxIfInBounds, List.eraseIdx_append_of_length_le]
    have hsub : (A ++ B).Sublist (A ++ x :: B) := List.Sublist.append (List.Sublist.refl _) (List.sublist_cons_self _ _)
    have hseen : seen.contains x.born = true := by
      cases e : seen.contains x.born with
      | true => rfl
      | false => exact absurd rfl (hk x (List.mem_filter.2 ⟨by simp, by rw [e]; rfl⟩))
    refine ⟨setBlock w b (.map (ensi (A ++ B)) c), ?_, ⟨A ++ B, c, since, seen, c0, heap_setBlock_same hb _, (heap_setBlock_other hb _ (Ne.symm hbr)).trans hr, fun y hy => hs y (hsub.subset hy), hsc, fun y hy => h1 y (hsub.subset hy), h2.sublist hsub, h3.sublist hsub, by simp at h4 ⊢; omega, fun k' => ?_, h6, ?_⟩, ⟨rfl, rfl, rfl, by simp [setBlock], fun i _ hi => heap_setBlock_other hb _ (fun e => hi (by rw [e]))⟩⟩
    · rw [List.map_append, List.map_cons] at hf
      simp [Builtin.delete_, run_underlying ht, MapKept.run_getObj_map hb, run_check_i, hl, hf, her, MapKept.run_setObj_map _ hb, Result.andThen, setBlock]
    · have := h5 k'
      rw [el_app_i, el_cons_i] at this
      rw [el_app_i]
      dsimp only
      by_cases e : k' = x.k
      · subst e
        rw [if_pos rfl, el_none_i hno]
        have hB : ∀ y ∈ B, y.k ≠ x.k := fun y hy => Ne.symm ((List.pairwise_cons.1 (List.pairwise_append.1 h2).2.1).1 y hy)
        rw [el_none_i hB]
        rfl
      · rw [if_neg e] at this ⊢
        exact this
    · rw [List.filter_append, List.filter_append, List.filter_cons, if_neg (by rw [hseen]; simp)]

theorem wpList_range_i (hg : o.guard = none) (mo : Operand) (t e : TypeId) (hop : o.op = Op.range t mo) (ht : Try.prog.underlying t = some (.map 2 e)) (hm : a.eval mo = .map (some b)) (h : Mi w b n m)
    (hK : ∀ w' T, Rni w' b w.heap.size n m T → T.length ≤ n → T.Pairwise (fun x y => x.k ≠ y.k) → (∀ k v, (∃ x ∈ T, x.k = k ∧ x.v = v) ↔ m k = some v) → Below w.heap.size w w' → wpList Try.prog ops Q rest (a.put o.dst (.pointer (some ⟨w.heap.size, 0, none⟩))) w') :
    wpList Try.prog ops Q (o :: rest) a w := by
  refine wpList_plain hg fun K' hK' => ?_
  obtain ⟨w', T, hrun, r1, r2, r3, r4, r5⟩ := h.range ht
  unfold Oper.wp
  simp [execOp, hop, hm, hrun, Result.andThen]
  exact hK' _ _ (hK w' T r1 r2 r3 r4 r5)
theorem wpList_next_i (hg : o.guard = none) (it : Operand) (hop : o.op = Op.next it false) (hit : a.eval it = .pointer (some ⟨r, 0, none⟩)) (h : Rni w b r n m T) (hbr : b ≠ r)
    (hDone : T = [] → wpList Try.prog ops Q rest (a.put o.dst (.tuple #[.bool false])) w)
    (hMore : ∀ A x B w', T = A ++ x :: B → Rni w' b r n m (A ++ B) → w.grownBy w' (some r) → (Instr.entry (.pointer (some ⟨r, 0, none⟩))).run Try.prog w' = .ok (.tuple #[.int .i64 x.k, x.v]) w' → wpList Try.prog ops Q rest (a.put o.dst (.tuple #[.bool true, .int .i64 x.k, x.v])) w') :
    wpList Try.prog ops Q (o :: rest) a w := by
  refine wpList_plain hg fun K' hK' => ?_
  unfold Oper.wp
  rcases h.next o.type hbr with ⟨h0, hrun⟩ | ⟨A, x, B, w', h0, hrun, h1, h2, h3⟩
  · simp [execOp, hop, hit, hrun, Result.andThen]
    exact hK' _ _ (hDone h0)
  · simp [execOp, hop, hit, hrun, Result.andThen]
    exact hK' _ _ (hMore A x B w' h0 h1 h2 h3)
theorem wpList_len_i (hg : o.guard = none) (mo : Operand) (t e : TypeId) (hop : o.op = Op.call { callee := Callee.builtin Builtin.len, args := #[mo], argTypes := #[t] }) (ht : Try.prog.underlying t = some (.map 2 e))
    (hm : a.eval mo = .map (some b)) (h : Mi w b n m) (hK : ∀ z : Nat, (z = 0 ↔ ∀ k, m k = none) → wpList Try.prog ops Q rest (a.put o.dst (.int .i64 (z : Int))) w) : wpList Try.prog ops Q (o :: rest) a w := by
  refine wpList_plain hg fun K' hK' => ?_
  obtain ⟨z, hrun, hz⟩ := h.len ht o.type
  unfold Oper.wp
  simp [execOp, hop, resolve, invoke, builtin, hm, hrun, Result.andThen]
  exact hK' _ _ (hK z hz)
theorem wpList_delr_i (hg : o.guard = none) (mo x : Operand) (t e : TypeId) (hop : o.op = Op.call { callee := Callee.builtin Builtin.delete, args := #[mo, x], argTypes := #[t, 2] }) (ht : Try.prog.underlying t = some (.map 2 e))
    (hm : a.eval mo = .map (some b)) (h : Rni w b r n m T) (hbr : b ≠ r) (k : Int) (hk : ∀ x ∈ T, x.k ≠ k) (hx : a.eval x = .int .i64 k)
    (hK : ∀ w', Rni w' b r n (fun k' => if k' = k then none else m k') T → w.grownBy w' (some b) → wpList Try.prog ops Q rest (a.put o.dst (.tuple #[])) w') : wpList Try.prog ops Q (o :: rest) a w := by
  refine wpList_plain hg fun K' hK' => ?_
  obtain ⟨w', hrun, r1, r2⟩ := h.del hbr ht k hk o.type
  unfold Oper.wp
  simp [execOp, hop, resolve, invoke, builtin, hm, hx, hrun, Result.andThen]
  exact hK' _ _ (hK w' r1 r2)
/-- over a nil map: none comes -/
theorem wpListIn_range_nil {F : Fence} {N : Nat} (hg : o.guard = none) (mo : Operand) (t e : TypeId) (hop : o.op = Op.range t mo) (ht : Try.prog.underlying t = some (.map 2 e)) (hm : a.eval mo = .map none)
    (hK : wpListIn F N Try.prog ops Q rest (a.put o.dst (.pointer (some ⟨w.heap.size, 0, none⟩))) (w.alloc (.mapIter none 0 #[] 0))) : wpListIn F N Try.prog ops Q (o :: rest) a w := by
  refine wpListIn_plain hg fun K' hK' => ?_
  have hrun : (Instr.range t (.map none)).run Try.prog w = .ok (.pointer (some ⟨w.heap.size, 0, none⟩)) (w.alloc (.mapIter none 0 #[] 0)) := by
    simp [Instr.range, run_underlying ht, Result.andThen, newObj]
    rfl
  unfold Oper.wpIn
  refine ⟨by simp [Oper.about, hop], ?_⟩
  rw [Oper.semAt_plain F _ _ (by rw [hop]; intro c hc'; cases hc')]
  simp [execOp, hop, hm, hrun, Result.andThen]
  exact hK' _ _ hK
theorem wpListIn_next_nil {F : Fence} {N : Nat} (hg : o.guard = none) (it : Operand) (hop : o.op = Op.next it false) (hit : a.eval it = .pointer (some ⟨r, 0, none⟩)) (h : w.heap[r]? = some (.mapIter none 0 #[] 0))
    (hK : wpListIn F N Try.prog ops Q rest (a.put o.dst (.tuple #[.bool false])) w) : wpListIn F N Try.prog ops Q (o :: rest) a w := by
  refine wpListIn_plain hg fun K' hK' => ?_
  have hrun : (Instr.next (.pointer (some ⟨r, 0, none⟩)) false o.type).run Try.prog w = .ok (.tuple #[.bool false]) w := by
    simp [Instr.next, getObj, Sem.run, h, Result.andThen]
  unfold Oper.wpIn
  refine ⟨by simp [Oper.about, hop], ?_⟩
  rw [Oper.semAt_plain F _ _ (by rw [hop]; intro c hc'; cases hc')]
  simp [execOp, hop, hit, hrun, Result.andThen]
  exact hK' _ _ hK
end

end Go.Proofs.Ythbnbifagenpiaa
