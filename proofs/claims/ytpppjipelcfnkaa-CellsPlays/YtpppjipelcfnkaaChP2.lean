/-
  The landed chain: Delete of one version; cells of a row of the call's own turned.
-/
import Derived.Test.YtpppjipelcfnkaaChP1
import Derived.Test.YtpppjipelcfnkaaApFull
namespace Go.Proofs.Ytpppjipelcfnkaa.S
open Go.RowKit

/-- the first m elements of what the call owns -/
theorem own_take {w : World} {base k n g cap m : Nat} {e : TypeId} {xs : List Value} (h : w.ownsRow base e k (.slice (some ⟨g, 0, none⟩) n cap) n xs) (hm : m ≤ n) : w.ownsRow base e k (.slice (some ⟨g, 0, none⟩) m cap) m (xs.take (m * k)) := by
  have hmk : m * k ≤ n * k := Nat.mul_le_mul_right _ hm
  rcases h.2 with ⟨h1, _⟩ | ⟨g', cap', cur, hv, hb, hg, hc, hmx, h3, h4⟩
  · cases h1
  · cases hv
    refine ⟨by rw [List.length_take, h.1]; omega, .inr ⟨g, cap, cur, rfl, hb, hg, by omega, hmx, h3, ?_⟩⟩
    rw [← h4, List.take_take, Nat.min_eq_left hmk]

section
variable {P : Program} {t e : TypeId} {k bytes : Nat}

/-- an append onto the first i elements of what the call owns, with room -/
theorem run_append_room (L : El P t e k bytes) {w : World} {base g cap n i m : Nat} {G : Nat → Prop} {v : Value} {xs cs : List Value} (hown : w.ownsRow base e k (.slice (some ⟨g, 0, none⟩) n cap) n xs) (hi : i + m ≤ n) (h : Sg w G k v m cs) (h1 : ∀ u ∈ cs, u.oneCell' = true) :
    ∀ ty, (Builtin.append_ #[t, t] ty #[.slice (some ⟨g, 0, none⟩) i cap, v]).run P w = .ok (.slice (some ⟨g, 0, none⟩) (i + m) cap) (w.setCells g (i * k) cs) := by
  intro ty
  obtain ⟨ii, z, hii, hz0, hz1, hz2, hz3⟩ := L.info
  obtain ⟨hl, A, c, rfl, hc, hx⟩ := h
  have hle : i * k + m * k ≤ n * k := by rw [← Nat.add_mul]; exact Nat.mul_le_mul_right _ hi
  have hcap : n ≤ cap := by
    rcases hown.2 with ⟨h1, _⟩ | ⟨g', cap', cur, hv, hb, hg, hc, _⟩
    · cases h1
    · cases hv; exact hc
  have hf : (Builtin.firstCells k m (.slice A m c)).run P w = .ok cs.toArray w := by
    by_cases h0 : m = 0
    · subst h0
      obtain rfl : cs = [] := List.length_eq_zero_iff.1 (by simpa using hl)
      cases A with
      | none => simp [Builtin.firstCells]
      | some a => exact run_firstCells_some (P := P) w k _ a _ c [] (by simp) (fun j u hj => by simp at hj)
    · obtain ⟨a, rfl, _, hx⟩ := hx h0
      exact run_firstCells_some (P := P) w k _ a _ c cs hl hx
  have hst := run_storeCells_cells (P := P) g (i * k) cs 0 w (fun j hj => by
      have hj' : i * k + j < xs.length := by rw [hown.1]; omega
      have := V.own_cell hown (List.getElem?_eq_getElem hj')
      simp only [Nat.add_zero, this, Option.isSome_some]) (fun j hj => V.own_frozen hown _) h1
  simp only [Nat.add_zero] at hst
  have hr : i + m ≤ cap := by omega
  simp [Builtin.append_, run_underlying L.und, sizeOf, typeInfo, hii, hz1, Builtin.lenOf, hr, hf, Addr.add_lit, hst]

theorem step_app {ops : Array Oper} {o : Oper} {a : Act} {w w' : World} {K : Act → World → Prop} {Q : Exit → Act → World → Prop} {E : Prop} (hw : Region.wanted o (yielded ops a.tmps) = true) (s x : Operand)
    (ho : o.op = .call { callee := .builtin .append, args := #[s, x], argTypes := #[t, t] }) {v0 v r : Value} (hs : a.eval s = v0) (hx : a.eval x = v)
    (hrun : ∀ ty, (Builtin.append_ #[t, t] ty #[v0, v]).run P w = .ok r w') (hk : K (a.put o.dst r) w') :
    if Region.wanted o (yielded ops a.tmps) = true then Oper.wp P o a w K Q else E := by
  rw [if_pos hw]
  unfold Oper.wp execOp
  simp only [ho, resolve, invoke, builtin, Sem.run_bind, Sem.run_pure, Result.andThen_ok, List.map_toArray, List.map_cons, List.map_nil, hs, hx, hrun]
  exact hk

theorem wpList_clear {ops : Array Oper} {rest : List Oper} {o : Oper} {a : Act} {w w' : World} {Q : Exit → Act → World → Prop} (hgd : o.guard = none) (s : Operand)
    (ho : o.op = .call { callee := .builtin .clear, args := #[s], argTypes := #[t] }) {v0 r : Value} (hs : a.eval s = v0)
    (hrun : ∀ ty, (Builtin.clear_ #[t] ty #[v0]).run P w = .ok r w') (h : wpList P ops Q rest (a.put o.dst r) w') : wpList P ops Q (o :: rest) a w := by
  refine wpList_plain hgd fun K hK => ?_
  unfold Oper.wp execOp
  simp only [ho, resolve, invoke, builtin, Sem.run_bind, Sem.run_pure, Result.andThen_ok, List.map_toArray, List.map_cons, List.map_nil, hs, hrun]
  exact hK _ _ h
end

/-- one cell of what the call owns turned -/
theorem own_set1 (P : Program) {w : World} {base k n g cap : Nat} {e : TypeId} {xs : List Value} (h : w.ownsRow base e k (.slice (some ⟨g, 0, none⟩) n cap) n xs) {o : Nat} (ho : o < n * k) (u : Value) (h1 : u.oneCell' = true) : (w.setCell ⟨g, o, none⟩ u).ownsRow base e k (.slice (some ⟨g, 0, none⟩) n cap) n (xs.set o u) := by
  have hl : o < xs.length := by rw [h.1]; exact ho
  have := (V.own_stored P h o [u] (by simp; omega) (by simpa using h1)).1
  have e : splice xs o [u] = xs.set o u := by
    rw [List.set_eq_take_append_cons_drop, if_pos hl]
    simp [splice]
  rw [e] at this
  exact this
end Go.Proofs.Ytpppjipelcfnkaa.S

namespace Go.Proofs.Ytpppjipelcfnkaa
open Go.RowKit

theorem verV_set : ∀ (c : Cn.Ch) (k : Nat) (hk : k < c.length) (i : Nat) (u : Value) (y : Cn.Vr), i < 4 → (verC c[k]).set i u = verC y → (verV c).set (k * 4 + i) u = verV (c.set k y) := by
  intro c
  induction c with
  | nil => intro k hk; simp at hk
  | cons v r ih =>
    intro k hk i u y hi h
    show (verC v ++ verV r).set _ u = _
    cases k with
    | zero =>
      rw [List.set_append, if_pos (by simp [verC]; omega)]
      rw [show 0 * 4 + i = i by omega, show (verC v).set i u = verC y from h]
      rfl
    | succ k =>
      rw [List.set_append, if_neg (by simp [verC]; omega)]
      have := ih k (by simpa using hk) i u y hi h
      rw [show (k + 1) * 4 + i - (verC v).length = k * 4 + i by simp [verC]; omega, this]
      rfl

theorem clear_row10 {w : World} {base g cap n : Nat} {xs : List Value} (h : w.ownsRow base 49 4 (.slice (some ⟨g, 0, none⟩) n cap) n xs) {o c : Nat} (ho : o + 4 ≤ n * 4) :
    ∀ ty, (Builtin.clear_ #[45] ty #[.slice (some ⟨g, o, none⟩) 1 c]).run Try.prog w = .ok (.tuple #[]) (w.setCells g o [.int .i64 0, .int .i64 0, .string ByteArray.empty, .bool false]) := by
  intro ty
  obtain ⟨i0, hi, hz0, hz1, hz2⟩ := info_parts (show (Try.prog.info? 49).map (fun i => (i.zero, i.size, i.bytes)) = some (some (.agg #[.int .i64 0, .int .i64 0, .string ByteArray.empty, .bool false]), 4, 40) by kernel_rfl)
  have hst := run_storeCells_cells (P := Try.prog) g o [.int .i64 0, .int .i64 0, .string ByteArray.empty, .bool false] 0 w (fun j hj => by
      have hj' : o + j < xs.length := by rw [h.1]; simp at hj; omega
      have := V.own_cell h (List.getElem?_eq_getElem hj')
      simp only [Nat.add_zero, this, Option.isSome_some]) (fun j hj => V.own_frozen h _) (verC_one Cn.zero)
  simp only [Nat.add_zero] at hst
  have hzc : (Builtin.zeroCells (Value.agg #[.int .i64 0, .int .i64 0, .string ByteArray.empty, .bool false]).cells 1).toList = [.int .i64 0, .int .i64 0, .string ByteArray.empty, .bool false] := by first | kernel_rfl | simp [Builtin.zeroCells, Value.cells]
  simp [Builtin.clear_, run_underlying Try.underlying45, zeroValue, typeInfo, hi, hz0, hzc, hst]

theorem setCells_below {w0 w : World} {B : Nat} (hb : Below B w0 w) {g : Nat} (hg : B ≤ g) : ∀ (cs : List Value) (o : Nat), Below B w0 (w.setCells g o cs) := by
  intro cs
  induction cs generalizing w with
  | nil => intro o; exact hb
  | cons u r ih => intro o; exact ih (hb.setCell (p := ⟨g, o, none⟩) hg u) (o + 1)

theorem splice_take {α : Type} {a b d : List α} {z : List α} {m : Nat} (h : (a ++ b).length = m) : (splice ((a ++ b) ++ d) m z).take m = a ++ b := by
  subst h
  unfold splice
  generalize a ++ b = e
  rw [List.take_left, List.take_left]

set_option maxRecDepth 100000 in
set_option maxHeartbeats 4000000 in
theorem delete10 {w : World} {base g cap : Nat} {c : Cn.Ch} (hown : w.ownsRow base 49 4 (.slice (some ⟨g, 0, none⟩) c.length cap) c.length (verV c)) {i : Nat} (hi : i < c.length) (hl : c.length ≤ 1000) :
    Calls Try.prog 61 #[.slice (some ⟨g, 0, none⟩) c.length cap, .int .i64 (i : Int), .int .i64 ((i : Int) + 1)] w fun e w' => ∃ v', e = .returned v' ∧ w'.ownsRow base 49 4 v' (c.eraseIdx i).length (verV (c.eraseIdx i)) ∧ Below base w w' := by
  obtain ⟨n, hn⟩ : ∃ n, c.length = n + 1 := ⟨c.length - 1, by omega⟩
  have hgb : base ≤ g := (World.ownsRow.lt hown g rfl).1
  have hown : w.drew.ownsRow base 49 4 (.slice (some ⟨g, 0, none⟩) c.length cap) c.length (verV c) := hown
  have hbd : Below base w w.drew := (Below.refl _ _).drew
  have hcap : n + 1 ≤ cap := by
    rcases hown.2 with ⟨h1, _⟩ | ⟨g', cap', cur, hv, hb, hg, hc, _⟩
    · cases h1
    · cases hv; omega
  have hel : (c.eraseIdx i).length = n := by rw [List.length_eraseIdx_of_lt hi]; omega
  have hee : verV (c.eraseIdx i) = verV (c.take i) ++ verV (c.drop (i + 1)) := by rw [List.eraseIdx_eq_take_drop_succ, verV_append]
  have hdl : (c.drop (i + 1)).length = n - i := by rw [List.length_drop]; omega
  have hsl : SlC w.drew (fun b => b = g) (.slice (some ⟨g, 0, none⟩) c.length cap) c := by
    obtain ⟨h0, A, cp, e, hc, hx⟩ := S.Sg.of_own hown
    cases e
    exact ⟨h0, _, _, rfl, hc, fun h => by obtain ⟨a, e, _, hx⟩ := hx h; cases e; exact ⟨_, rfl, rfl, hx⟩⟩
  -- behind the append
  have hlen : ((verV (c.take i)) ++ verV (c.drop (i + 1))).length = n * 4 := by
    rw [List.length_append, verV_length, verV_length, hdl, List.length_take]; omega
  have hsp : splice (verV c) (i * 4) (verV (c.drop (i + 1))) = (verV (c.take i) ++ verV (c.drop (i + 1))) ++ (verV c).drop (n * 4) := by
    unfold splice
    rw [← verV_take c i (by omega), verV_length, hdl, show i * 4 + (n - i) * 4 = n * 4 by omega, List.append_assoc]
  obtain ⟨ds, hds⟩ : ∃ ds, ds = verV (c.drop (i + 1)) := ⟨_, rfl⟩
  have hds1 : ∀ u ∈ ds, u.oneCell' = true := by rw [hds]; exact verV_one _
  have H2 := V.own_stored Try.prog hown (i * 4) ds (by rw [hds, verV_length, hdl]; omega) hds1
  obtain ⟨w2, hw2⟩ : ∃ w2, w2 = w.drew.setCells g (i * 4) ds := ⟨_, rfl⟩
  rw [← hw2] at H2
  have HB2 : Below base w w2 := by rw [hw2]; exact setCells_below hbd hgb _ _
  have HC := clear_row10 H2.1 (o := n * 4) (c := cap - n) (by omega)
  have H3 := V.own_stored Try.prog H2.1 (n * 4) [.int .i64 0, .int .i64 0, .string ByteArray.empty, .bool false] (by simp; omega) (verC_one Cn.zero)
  obtain ⟨w3, hw3⟩ : ∃ w3, w3 = w2.setCells g (n * 4) [.int .i64 0, .int .i64 0, .string ByteArray.empty, .bool false] := ⟨_, rfl⟩
  rw [← hw3] at H3 HC
  have HB3 : Below base w w3 := by rw [hw3]; exact setCells_below HB2 hgb _ _
  have HR : Hid (w3.ownsRow base 49 4 (.slice (some ⟨g, 0, none⟩) n cap) (c.eraseIdx i).length (verV (c.eraseIdx i))) := Lib.hid (by
    have := S.own_take H3.1 (m := n) (by omega)
    rw [hel, hee]
    rw [hds, hsp, splice_take hlen] at this
    exact this)
  have HAp : Hid (∀ v, S.Sg w.drew (fun b => b = g) 4 v (n - i) ds → ∀ ty, (Builtin.append_ #[45, 45] ty #[.slice (some ⟨g, 0, none⟩) i cap, v]).run Try.prog w.drew = .ok (.slice (some ⟨g, 0, none⟩) n cap) w2) := Lib.hid (fun v hv ty => by
    have := S.run_append_room elCv hown (i := i) (m := n - i) (by omega) hv hds1 ty
    rw [show i + (n - i) = n by omega, ← hw2] at this
    exact this)
  have HB := Lib.hid HB3
  have hci : (i : Int) ≤ (cap : Int) := by omega
  have hne : ((i : Int) == (i : Int) + 1) = false := by simp; omega
  have hw1 : IntKind.i64.wrap ((i : Int) + 1) = (i : Int) + 1 := IntWalk.i64_in _ (by omega)
  have h0 : (0 : Int) ≤ (i : Int) := by omega
  have h1 : (i : Int) ≤ (i : Int) + 1 := by omega
  have h2 : (i : Int) + 1 ≤ (n : Int) + 1 := by omega
  have h3 : (n : Int) + 1 ≤ (cap : Int) := by omega
  have h4 : (0 : Int) ≤ (i : Int) + 1 := by omega
  have h5 : (i : Int) + 1 ≤ (cap : Int) := by omega
  have h6 : ¬ cap ≤ n := by omega
  have hiN : ¬ n + 1 ≤ i := by omega
  rw [hn] at hown
  clear H2 H3
  rw [hn]
  by_cases hce : cap = i + 1
  · subst hce
    obtain rfl : n = i := by omega
    have hd0 : ds = [] := by rw [hds, List.drop_of_length_le (by omega)]; rfl
    have hw2' : w2 = w.drew := by rw [hw2, hd0]; rfl
    rw [hw2'] at HC
    have HC := Lib.hid HC
    clear hw2' hw2 hw3 hds HAp hd0 hsp hdl hlen hee hsl hown
    have e1 : n + 1 - n = 1 := by omega
    rw [e1] at HC
    go_enter Try.func61, Try.ntmps61
    go_wp2_with fail
    go_region_held3 (fun _ => True)
        (trivial)
        (fail)
    go_wp2_with fail
    rw [HC.out]
    go_wp2_with fail
    go_ret
    exact ⟨_, rfl, HR.out, HB.out⟩
  · have HA : Hid (∀ ty, (Builtin.append_ #[45, 45] ty #[.slice (some ⟨g, 0, none⟩) i cap, .slice (some ⟨g, (i + 1) * 4, none⟩) (n - i) (cap - (i + 1))]).run Try.prog w.drew = .ok (.slice (some ⟨g, 0, none⟩) n cap) w2) := Lib.hid (HAp.out _ (by
      have := SlC.drop hsl (m := i + 1) (by omega) (cap - (i + 1)) (by omega)
      rw [hds]
      rw [show c.length - (i + 1) = n - i by omega] at this
      simpa [Addr.add] using this))
    have HC := Lib.hid HC
    clear hw2 hw3 hds HAp hsp hdl hlen hee hsl hown
    go_enter Try.func61, Try.ntmps61
    go_wp2_with fail
    go_region_held3 (fun _ => True)
        (trivial)
        (first
          | (refine S.step_app rfl _ _ rfl rfl rfl (HA.out) ?_))
    go_wp2_with fail
    go_ret
    exact ⟨_, rfl, HR.out, HB.out⟩
end Go.Proofs.Ytpppjipelcfnkaa
