/-
  Bytes that are copied into a slice of the call's own, by append.
-/
import Derived.Test.YtfcccgohkmpofaaCrcW4
import Derived.Maps.AppendAt
import Derived.OwnWalk
namespace Go.Proofs.Ytfcccgohkmpofaa
open Go.RowKit

def C.bytesV (l : List UInt8) : List Value := l.map fun c => .int .u8 (c.toNat : Int)

theorem C.bytesV_append (a b : List UInt8) : C.bytesV (a ++ b) = C.bytesV a ++ C.bytesV b := by simp [C.bytesV]
theorem C.bytesV_length (l : List UInt8) : (C.bytesV l).length = l.length := by simp [C.bytesV]
theorem C.bytesV_one (l : List UInt8) : ∀ u ∈ C.bytesV l, u.oneCell' = true := by
  intro u hu
  simp [C.bytesV] at hu
  obtain ⟨c, _, rfl⟩ := hu
  rfl
theorem C.bytesV_at (l : List UInt8) (j : Nat) (h : j < l.length) : (C.bytesV l)[j]? = some (.int .u8 (l[j].toNat : Int)) := by simp [C.bytesV, h]

/-- the call's own slice v holds the bytes l -/
def Own (w : World) (base : Nat) (v : Value) (l : List UInt8) : Prop := w.ownsRow base 5 1 v l.length (C.bytesV l)

theorem Own.form {w : World} {base : Nat} {v : Value} {l : List UInt8} (h : Own w base v l) : ∃ A cap, v = .slice A l.length cap ∧ l.length ≤ cap := by
  rcases h.2 with ⟨rfl, h0⟩ | ⟨g, cap, cur, rfl, _, _, hc, _⟩
  · exact ⟨none, 0, by rw [h0], by omega⟩
  · exact ⟨_, cap, rfl, hc⟩

theorem Own.sl {w : World} {base : Nat} {v : Value} {l : List UInt8} (h : Own w base v l) : Sl w w.heap.size v l := by
  have h0 := h
  rcases h.2 with ⟨rfl, h1⟩ | ⟨g, cap, cur, rfl, _, _, hc, _⟩
  · obtain rfl : l = [] := List.length_eq_zero_iff.1 h1
    exact Sl.nil _ _ _ _
  · refine ⟨_, cap, rfl, hc, fun _ => ⟨_, rfl, (World.ownsRow.lt h0 g rfl).2, fun j hj => ?_⟩⟩
    rw [Addr.add_lit, Nat.zero_add, World.ownsRow.cellAt h0 j (by omega)]
    exact C.bytesV_at l j hj

/-- a slice of no bytes that was just made -/
theorem Own.none_ {w : World} {base : Nat} (hb : base ≤ w.heap.size) : Own (w.alloc (.cells #[] 5)) base (.slice (some ⟨w.heap.size, 0, none⟩) 0 0) [] :=
  ⟨rfl, .inr ⟨w.heap.size, 0, #[], rfl, hb, heap_alloc_new w _, Nat.le_refl _, Nat.zero_le _, rfl, rfl⟩⟩

theorem Own.none_at {w : World} {base g : Nat} (hg : g = w.heap.size) (hb : base ≤ g) : Own (w.alloc (.cells #[] 5)) base (.slice (some ⟨g, 0, none⟩) 0 0) [] := by
  subst hg; exact Own.none_ hb

theorem Try.infoU8 : (Try.prog.info? 5).map (fun i => (i.zero, i.size, i.bytes)) = some (some (.int .u8 0), 1, 1) := by kernel_rfl

theorem run_append_sl {w : World} {base B : Nat} {v0 v : Value} {xs l : List UInt8} (ty : TypeId) (hown : Own w base v0 xs) (h : Sl w B v l) (hlen : xs.length + l.length ≤ 1000000) (hbase : base ≤ w.heap.size) :
    ∃ v' w', (Builtin.append_ #[22, 22] ty #[v0, v]).run Try.prog w = .ok v' w' ∧ Own w' base v' (xs ++ l) ∧ w.grownBy w' v0.ownBlock ∧ (v'.ownBlock = v0.ownBlock ∨ v'.ownBlock = some w.heap.size) := by
  obtain ⟨i0, hi, hz0, hz1, hz2⟩ := info_parts Try.infoU8
  obtain ⟨A, cap, rfl, hcap, hx⟩ := h
  cases l with
  | nil =>
    have e : xs ++ [] = xs := List.append_nil xs
    rw [e]
    cases A with
    | none =>
      refine ⟨v0, w, ?_, hown, World.grownBy.refl w _, .inl rfl⟩
      rcases hown.2 with ⟨rfl, h0⟩ | ⟨g, cap, cur, rfl, _, _, hnc, _⟩
      · simp [Builtin.append_, run_underlying Try.underlying22, sizeOf, typeInfo, hi, Builtin.lenOf, Builtin.firstCells]
      · simp [Builtin.append_, run_underlying Try.underlying22, sizeOf, typeInfo, hi, Builtin.lenOf, Builtin.firstCells, hnc, storeCells]
    | some a =>
      obtain ⟨v', w', h1, h2, h3, _, h5⟩ := run_append_own_at (P := Try.prog) w base 22 ty 5 i0 (.int .u8 0) 1 1 Try.underlying22 hi hz0 hz1 hz2 rfl (by decide) v0 xs.length (C.bytesV xs) hown a 0 cap [] rfl (fun j u hu => by simp at hu) (fun u hu => by cases hu)
        (by unfold maxLen; simp at hlen; omega) (by simp at hlen; omega) hbase
      exact ⟨v', w', h1, by simpa [Own] using h2, h3, h5⟩
  | cons c r =>
    obtain ⟨a, rfl, _, hc⟩ := hx (by simp)
    obtain ⟨v', w', h1, h2, h3, _, h5⟩ := run_append_own_at (P := Try.prog) w base 22 ty 5 i0 (.int .u8 0) 1 1 Try.underlying22 hi hz0 hz1 hz2 rfl (by decide) v0 xs.length (C.bytesV xs) hown a (c :: r).length cap (C.bytesV (c :: r))
      (by rw [C.bytesV_length, Nat.mul_one]) (fun j u hu => by
        have hj : j < (c :: r).length := by
          have := (List.getElem?_eq_some_iff.1 hu).1
          rwa [C.bytesV_length] at this
        rw [hc j hj, ← hu, C.bytesV_at _ j hj]) (C.bytesV_one _) (by unfold maxLen; omega) (by omega) hbase
    exact ⟨v', w', h1, by rw [Own, C.bytesV_append, List.length_append]; exact h2, h3, h5⟩

theorem wp_append_sl {o : Oper} {a : Act} {w : World} {K : Act → World → Prop} {Q : Exit → Act → World → Prop} (s x : Operand)
    (ho : o.op = .call { callee := .builtin .append, args := #[s, x], argTypes := #[22, 22] })
    {base B : Nat} {v0 v : Value} {xs l : List UInt8} (hs : a.eval s = v0) (hx : a.eval x = v) (hown : Own w base v0 xs) (h : Sl w B v l) (hlen : xs.length + l.length ≤ 1000000) (hbase : base ≤ w.heap.size)
    (hk : ∀ v' w', Own w' base v' (xs ++ l) → w.grownBy w' v0.ownBlock → (v'.ownBlock = v0.ownBlock ∨ v'.ownBlock = some w.heap.size) → K (a.put o.dst v') w') : o.wp Try.prog a w K Q := by
  obtain ⟨v', w', hrun, h2, h3, h4⟩ := run_append_sl (w := w) o.type hown h hlen hbase
  unfold Oper.wp execOp
  simp only [ho, resolve, invoke, builtin, Sem.run_bind, Sem.run_pure, Result.andThen_ok, List.map_toArray, List.map_cons, List.map_nil, hs, hx, hrun]
  exact hk v' w' h2 h3 h4

theorem wpList_append_sl {ops : Array Oper} {rest : List Oper} {o : Oper} {a : Act} {w : World} {Q : Exit → Act → World → Prop} (hgd : o.guard = none) (s x : Operand)
    (ho : o.op = .call { callee := .builtin .append, args := #[s, x], argTypes := #[22, 22] })
    {base B : Nat} {v0 v : Value} {xs l : List UInt8} (hs : a.eval s = v0) (hx : a.eval x = v) (hown : Own w base v0 xs) (h : Sl w B v l) (hlen : xs.length + l.length ≤ 1000000) (hbase : base ≤ w.heap.size)
    (hk : ∀ v' w', Own w' base v' (xs ++ l) → w.grownBy w' v0.ownBlock → (v'.ownBlock = v0.ownBlock ∨ v'.ownBlock = some w.heap.size) → wpList Try.prog ops Q rest (a.put o.dst v') w') : wpList Try.prog ops Q (o :: rest) a w :=
  wpList_plain hgd fun _ hK => wp_append_sl s x ho hs hx hown h hlen hbase fun v' w' h2 h3 h4 => hK _ _ (hk v' w' h2 h3 h4)

/-- in a region that draws, behind a guard that is met -/
theorem step_append_sl {ops : Array Oper} {o : Oper} {a : Act} {w : World} {K : Act → World → Prop} {Q : Exit → Act → World → Prop} {E : Prop} (hw : Region.wanted o (yielded ops a.tmps) = true) (s x : Operand)
    (ho : o.op = .call { callee := .builtin .append, args := #[s, x], argTypes := #[22, 22] })
    {base B : Nat} {v0 v : Value} {xs l : List UInt8} (hs : a.eval s = v0) (hx : a.eval x = v) (hown : Own w base v0 xs) (h : Sl w B v l) (hlen : xs.length + l.length ≤ 1000000) (hbase : base ≤ w.heap.size)
    (hk : ∀ v' w', Own w' base v' (xs ++ l) → w.grownBy w' v0.ownBlock → (v'.ownBlock = v0.ownBlock ∨ v'.ownBlock = some w.heap.size) → K (a.put o.dst v') w') :
    if Region.wanted o (yielded ops a.tmps) = true then Oper.wp Try.prog o a w K Q else E := by
  rw [if_pos hw]
  exact wp_append_sl s x ho hs hx hown h hlen hbase hk

end Go.Proofs.Ytfcccgohkmpofaa
