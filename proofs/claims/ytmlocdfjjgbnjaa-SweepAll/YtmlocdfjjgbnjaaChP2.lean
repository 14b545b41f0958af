/-
  The landed chain: Delete of one version; cells of a row of the call's own turned.
-/
import Derived.Test.YtmlocdfjjgbnjaaChP1
import Derived.Test.YtmlocdfjjgbnjaaApFull
namespace Go.Proofs.Ytmlocdfjjgbnjaa.S
open Go.RowKit

/-- the first m elements of what the call owns -/
theorem own_take {w : World} {base k n g cap m : Nat} {e : TypeId} {xs : List Value} (h : w.ownsRow base e k (.slice (some ⟨g, 0, none⟩) n cap) n xs) (hm : m ≤ n) : w.ownsRow base e k (.slice (some ⟨g, 0, none⟩) m cap) m (xs.take (m * k)) := by
  have hmk : m * k ≤ n * k := Nat.mul_le_mul_right _ hm
  rcases h.2 with ⟨h1, _⟩ | ⟨g', cap', cur, hv, hb, hg, hc, hmx, h3, h4⟩
  · cases h1
  · cases hv
    refine ⟨by rw [List.length_take, h.1]; omega, .inr ⟨g, cap, cur, rfl, hb, hg, by omega, hmx, h3, ?_⟩⟩
    rw [← h4, List.take_take, Nat.min_eq_left hmk]

section
variable {P : Program} {t e : TypeId} {k bytes : Nat}

/-- an append onto the first i elements of what the call owns, with room -/
theorem run_append_room (L : El P t e k bytes) {w : World} {base g cap n i m : Nat} {G : Nat → Prop} {v : Value} {xs cs : List Value} (hown : w.ownsRow base e k (.slice (some ⟨g, 0, none⟩) n cap) n xs) (hi : i + m ≤ n) (h : Sg w G k v m cs) (h1 : ∀ u ∈ cs, u.oneCell' = true) :
    ∀ ty, (Builtin.append_ #[t, t] ty #[.slice (some ⟨g, 0, none⟩) i cap, v]).run P w = .ok (.slice (some ⟨g, 0, none⟩) (i + m) cap) (w.setCells g (i * k) cs) := by
  intro ty
  obtain ⟨ii, z, hii, hz0, hz1, hz2, hz3⟩ := L.info
  obtain ⟨hl, A, c, rfl, hc, hx⟩ := h
  have hle : i * k + m * k ≤ n * k := by rw [← Nat.add_mul]; exact Nat.mul_le_mul_right _ hi
  have hcap : n ≤ cap := by
    rcases hown.2 with ⟨h1, _⟩ | ⟨g', cap', cur, hv, hb, hg, hc, _⟩
    · cases h1
    · cases hv; exact hc
  have hf : (Builtin.firstCells k m (.slice A m c)).run P w = .ok cs.toArray w := by
    by_cases h0 : m = 0
    · subst h0
      obtain rfl : cs = [] := List.length_eq_zero_iff.1 (by simpa using hl)
      cases A with
      | none => simp [Builtin.firstCells]
      | some a => exact run_firstCells_some (P := P) w k _ a _ c [] (by simp) (fun j u hj => by simp at hj)
    · obtain ⟨a, rfl, _, hx⟩ := hx h0
      exact run_firstCells_some (P := P) w k _ a _ c cs hl hx
  have hst := run_storeCells_cells (P := P) g (i * k) cs 0 w (fun j hj => by
      have hj' : i * k + j < xs.length := by rw [hown.1]; omega
      have := V.own_cell hown (List.getElem?_eq_getElem hj')
      simp only [Nat.add_zero, this, Option.isSome_some]) (fun j hj => V.own_frozen hown _) h1
  simp only [Nat.add_zero] at hst
  have hr : i + m ≤ cap := by omega
  simp [Builtin.append_, run_underlying L.und, sizeOf, typeInfo, hii, hz1, Builtin.lenOf, hr, hf, Addr.add_lit, hst]

theorem step_app {ops : Array Oper} {o : Oper} {a : Act} {w w' : World} {K : Act → World → Prop} {Q : Exit → Act → World → Prop} {E : Prop} (hw : Region.wanted o (yielded ops a.tmps) = true) (s x : Operand)
    (ho : o.op = .call { callee := .builtin .append, args := #[s, x], argTypes := #[t, t] }) {v0 v r : Value} (hs : a.eval s = v0) (hx : a.eval x = v)
    (hrun : ∀ ty, (Builtin.append_ #[t, t] ty #[v0, v]).run P w = .ok r w') (hk : K (a.put o.dst r) w') :
    if Region.wanted o (yielded ops a.tmps) = true then Oper.wp P o a w K Q else E := by
  rw [if_pos hw]
  unfold Oper.wp execOp
  simp only [ho, resolve, invoke, builtin, Sem.run_bind, Sem.run_pure, Result.andThen_ok, List.map_toArray, List.map_cons, List.map_nil, hs, hx, hrun]
  exact hk

theorem wpList_clear {ops : Array Oper} {rest : List Oper} {o : Oper} {a : Act} {w w' : World} {Q : Exit → Act → World → Prop} (hgd : o.guard = none) (s : Operand)
    (ho : o.op = .call { callee := .builtin .clear, args := #[s], argTypes := #[t] }) {v0 r : Value} (hs : a.eval s = v0)
    (hrun : ∀ ty, (Builtin.clear_ #[t] ty #[v0]).run P w = .ok r w') (h : wpList P ops Q rest (a.put o.dst r) w') : wpList P ops Q (o :: rest) a w := by
  refine wpList_plain hgd fun K hK => ?_
  unfold Oper.wp execOp
  simp only [ho, resolve, invoke, builtin, Sem.run_bind, Sem.run_pure, Result.andThen_ok, List.map_toArray, List.map_cons, List.map_nil, hs, hrun]
  exact hK _ _ h
end

/-- one cell of what the call owns turned -/
theorem own_set1 (P : Program) {w : World} {base k n g cap : Nat} {e : TypeId} {xs : List Value} (h : w.ownsRow base e k (.slice (some ⟨g, 0, none⟩) n cap) n xs) {o : Nat} (ho : o < n * k) (u : Value) (h1 : u.oneCell' = true) : (w.setCell ⟨g, o, none⟩ u).ownsRow base e k (.slice (some ⟨g, 0, none⟩) n cap) n (xs.set o u) := by
  have hl : o < xs.length := by rw [h.1]; exact ho
  have := (V.own_stored P h o [u] (by simp; omega) (by simpa using h1)).1
  have e : splice xs o [u] = xs.set o u := by
    rw [List.set_eq_take_append_cons_drop, if_pos hl]
    simp [splice]
  rw [e] at this
  exact this
end Go.Proofs.Ytmlocdfjjgbnjaa.S

namespace Go.Proofs.Ytmlocdfjjgbnjaa
open Go.RowKit

theorem verV_set : ∀ (c : Cn.Ch) (k : Nat) (hk : k < c.length) (i : Nat) (u : Value) (y : Cn.Vr), i < 4 → (verC c[k]).set i u = verC y → (verV c).set (k * 4 + i) u = verV (c.set k y) := by
  intro c
  induction c with
  | nil => intro k hk; simp at hk
  | cons v r ih =>
    intro k hk i u y hi h
    show (verC v ++ verV r).set _ u = _
    cases k with
    | zero =>
      rw [List.set_append, if_pos (by simp [verC]; omega)]
      rw [show 0 * 4 + i = i by omega, show (verC v).set i u = verC y from h]
      rfl
    | succ k =>
      rw [List.set_append, if_neg (by simp [verC]; omega)]
      have := ih k (by simpa using hk) i u y hi h
      rw [show (k + 1) * 4 + i - (verC v).length = k * 4 + i by simp [verC]; omega, this]
      rfl

theorem clear_row10 {w : World} {base g cap n : Nat} {xs : List Value} (h : w.ownsRow base 40 4 (.slice (some ⟨g, 0, none⟩) n cap) n xs) {o c : Nat} (ho : o + 4 ≤ n * 4) :
    ∀ ty, (Builtin.clear_ #[25] ty #[.slice (some ⟨g, o, none⟩) 1 c]).run Try.prog w = .ok (.tuple #[]) (w.setCells g o [.int .i64 0, .int .i64 0, .string ByteArray.empty, .bool false]) := by
  intro ty
  obtain ⟨i0, hi, hz0, hz1, hz2⟩ := info_parts (show (Try.prog.info? 40).map (fun i => (i.zero, i.size, i.bytes)) = some (some (.agg #[.int .i64 0, .int .i64 0, .string ByteArray.empty, .bool false]), 4, 40) by kernel_rfl)
  have hst := run_storeCells_cells (P := Try.prog) g o [.int .i64 0, .int .i64 0, .string ByteArray.empty, .bool false] 0 w (fun j hj => by
      have hj' : o + j < xs.length := by rw [h.1]; simp at hj; omega
      have := V.own_cell h (List.getElem?_eq_getElem hj')
      simp only [Nat.add_zero, this, Option.isSome_some]) (fun j hj => V.own_frozen h _) (verC_one Cn.zero)
  simp only [Nat.add_zero] at hst
  have hzc : (Builtin.zeroCells (Value.agg #[.int .i64 0, .int .i64 0, .string ByteArray.empty, .bool false]).cells 1).toList = [.int .i64 0, .int .i64 0, .string ByteArray.empty, .bool false] := by first | kernel_rfl | simp [Builtin.zeroCells, Value.cells]
  simp [Builtin.clear_, run_underlying Try.underlying25, zeroValue, typeInfo, hi, hz0, hzc, hst]

theorem setCells_below {w0 w : World} {B : Nat} (hb : Below B w0 w) {g : Nat} (hg : B ≤ g) : ∀ (cs : List Value) (o : Nat), Below B w0 (w.setCells g o cs) := by
  intro cs
  induction cs generalizing w with
  | nil => intro o; exact hb
  | cons u r ih => intro o; exact ih (hb.setCell (p := ⟨g, o, none⟩) hg u) (o + 1)

theorem splice_take {α : Type} {a b d : List α} {z : List α} {m : Nat} (h : (a ++ b).length = m) : (splice ((a ++ b) ++ d) m z).take m = a ++ b := by
  subst h
  unfold splice
  generalize a ++ b = e
  rw [List.take_left, List.take_left]

end Go.Proofs.Ytmlocdfjjgbnjaa
