/-
  Bytes laid one behind the other into room that was made ahead: what each append does there. Copies of bytes, and bytes compared.
-/
import Derived.Test.YtfpojbnidoeohaaFrAbs
import Derived.Lib.AppendStr
import Derived.Lib.SliceRun
namespace Go.Proofs.Ytfpojbnidoeohaa
open Go.RowKit

/-- the block g has room for cap bytes, the first of which are l -/
def Buf (w : World) (g cap : Nat) (l : List UInt8) : Prop :=
  l.length ≤ cap ∧ ∃ cur : Array Value, w.heap[g]? = some (.cells cur 5 (0, 0)) ∧ cur.size = cap ∧ cur.toList.take l.length = bytesV l

section
variable {w w' : World} {g cap n n' : Nat} {l : List UInt8}

theorem Buf.lt (h : Buf w g cap l) : g < w.heap.size := by
  obtain ⟨_, cur, hg, _⟩ := h
  exact (Array.getElem?_eq_some_iff.1 hg).1

theorem Buf.keep (h : Buf w g cap l) (hk : w'.heap[g]? = w.heap[g]?) : Buf w' g cap l := by
  obtain ⟨h0, cur, hg, hc, ht⟩ := h
  exact ⟨h0, cur, hk.trans hg, hc, ht⟩
theorem Buf.step (h : Buf w g cap l) (hb : Below w.heap.size w w') : Buf w' g cap l := h.keep (hb.block g h.lt)

theorem Buf.sl (h : Buf w g cap l) : SlB w (fun b => b = g) (.slice (some ⟨g, 0, none⟩) l.length cap) l := by
  obtain ⟨h0, cur, hg, hc, ht⟩ := h
  refine ⟨by rw [bytesV_length]; omega, _, cap, rfl, h0, fun _ => ⟨_, rfl, rfl, fun j u hj => ?_⟩⟩
  rw [Addr.add_mid, cell_of_row _ _ _ cur 5 (0, 0) hg, Nat.zero_add]
  have hjl := (List.getElem?_eq_some_iff.1 hj).1
  rw [bytesV_length] at hjl
  rw [← ht, List.getElem?_take, if_pos hjl] at hj
  simpa using hj

theorem Buf.of_own {base : Nat} (h : w.ownsRow base 5 1 (.slice (some ⟨g, 0, none⟩) 0 cap) 0 []) : Buf w g cap [] := by
  rcases h.2 with ⟨hv, _⟩ | ⟨g', cap', cur, hv, _, hg, _, _, hcs, _⟩
  · cases hv
  · cases hv
    exact ⟨Nat.zero_le _, cur, hg, by simpa using hcs, by simp [bytesV]⟩

/-- the bytes m, stored behind what is there -/
theorem Buf.store (h : Buf w g cap l) (m : List UInt8) (hr : l.length + m.length ≤ cap) : ∃ w', (storeCells ⟨g, l.length, none⟩ (bytesV m)).run Try.prog w = .ok () w' ∧ Buf w' g cap (l ++ m) ∧ w.grownBy w' (some g) := by
  obtain ⟨h0, cur, hg, hc, ht⟩ := h
  have hst := run_storeCells_at (P := Try.prog) g l.length 5 (bytesV m) 0 cur w hg (by rw [bytesV_length, hc]; omega) (bytesV_one m)
  simp only [Nat.add_zero, bytesV_length] at hst
  refine ⟨_, hst, ⟨by simpa using hr, _, setRow_heap w g cur _ _ _ hg, ?_, ?_⟩, ⟨rfl, rfl, rfl, by simp, fun k _ hk => setRow_other w g k _ (fun e => hk (by rw [e]))⟩⟩
  · simp only [List.size_toArray, List.length_append, List.length_take, List.length_drop, Array.length_toList, bytesV_length]
    omega
  · rw [ht, bytesV_append, ← bytesV_append]
    have e : (l ++ m).length = (bytesV (l ++ m)).length := by rw [bytesV_length]
    rw [e]
    exact List.take_left

theorem underI : ∃ k, Try.prog.underlying 3 = some (.int k) := ⟨_, Try.underlying3⟩

theorem Buf.string (h : Buf w g cap l) (m : List UInt8) (hn : l.length = n) (hn' : n + m.length = n') (hr : n' ≤ cap) :
    ∃ w', (∀ ty, (Builtin.append_ #[44, 9] ty #[.slice (some ⟨g, 0, none⟩) n cap, .string ⟨m.toArray⟩]).run Try.prog w = .ok (.slice (some ⟨g, 0, none⟩) n' cap) w') ∧ Buf w' g cap (l ++ m) ∧ w.grownBy w' (some g) := by
  subst hn hn'
  obtain ⟨i, z, hi, hz0, hz1, hz2, hz3⟩ := elB.info
  obtain ⟨w', hst, hB, hG⟩ := h.store m hr
  refine ⟨w', fun ty => ?_, hB, hG⟩
  have hf := Lib.run_firstCells_string (P := Try.prog) w 1 ⟨m.toArray⟩
  have hsz : (⟨m.toArray⟩ : ByteArray).size = m.length := by simp [ByteArray.size]
  have hcs : Lib.strCells ⟨m.toArray⟩ = bytesV m := by simp [Lib.strCells, bytesV]
  rw [hsz, hcs] at hf
  simp [Builtin.append_, run_underlying elB.und, run_underlying Try.underlying9, sizeOf, typeInfo, hi, hz1, Builtin.lenOf, hsz, hr, hf, Addr.add_lit, hst]

theorem Buf.slice {F : Nat → Prop} {v : Value} (h : Buf w g cap l) {m : List UInt8} (hm : SlB w F v m) (hn : l.length = n) (hn' : n + m.length = n') (hr : n' ≤ cap) :
    ∃ w', (∀ ty, (Builtin.append_ #[44, 44] ty #[.slice (some ⟨g, 0, none⟩) n cap, v]).run Try.prog w = .ok (.slice (some ⟨g, 0, none⟩) n' cap) w') ∧ Buf w' g cap (l ++ m) ∧ w.grownBy w' (some g) := by
  subst hn hn'
  obtain ⟨i, z, hi, hz0, hz1, hz2, hz3⟩ := elB.info
  obtain ⟨w', hst, hB, hG⟩ := h.store m hr
  refine ⟨w', fun ty => ?_, hB, hG⟩
  obtain ⟨_, A, c, rfl, hc, hx⟩ := hm
  have hf : (Builtin.firstCells 1 m.length (.slice A m.length c)).run Try.prog w = .ok (bytesV m).toArray w := by
    by_cases h0 : m.length = 0
    · obtain rfl : m = [] := List.length_eq_zero_iff.1 h0
      cases A with
      | none => simp [Builtin.firstCells, bytesV]
      | some a => exact run_firstCells_some (P := Try.prog) w 1 _ a _ c (bytesV []) (by simp [bytesV]) (fun j u hj => by simp [bytesV] at hj)
    · obtain ⟨a, rfl, _, hx⟩ := hx h0
      exact run_firstCells_some (P := Try.prog) w 1 _ a _ c (bytesV m) (by rw [bytesV_length]; omega) hx
  simp [Builtin.append_, run_underlying elB.und, sizeOf, typeInfo, hi, hz1, Builtin.lenOf, hr, hf, Addr.add_lit, hst]

theorem Buf.zeros (h : Buf w g cap l) (k : Nat) (hn : l.length = n) (hn' : n + k = n') (hr : n' ≤ cap) (hk : k ≤ 1000000) :
    ∃ w', (∀ ty, (Builtin.append_ #[44, 3] ty #[.slice (some ⟨g, 0, none⟩) n cap, .int .i64 (k : Int)]).run Try.prog w = .ok (.slice (some ⟨g, 0, none⟩) n' cap) w') ∧ Buf w' g cap (l ++ List.replicate k 0) ∧ w.grownBy w' (some g) := by
  subst hn hn'
  obtain ⟨i, z, hi, hz0, hz1, hz2, hz3⟩ := elB.info
  obtain ⟨i5, hi5, hz50, _⟩ := info_parts (show (Try.prog.info? 5).map (fun i => (i.zero, i.size, i.bytes)) = some (some (.int .u8 0), 1, 1) by kernel_rfl)
  rw [hi] at hi5
  cases hi5
  rw [hz0] at hz50
  cases hz50
  obtain ⟨w', hst, hB, hG⟩ := h.store (List.replicate k 0) (by simpa using hr)
  refine ⟨w', fun ty => ?_, hB, hG⟩
  have hw : IntKind.i64.wrap (k : Int) = k := by rw [IntKind.wrap_i64]; omega
  have hneg : ¬ ((k : Int) < 0) := by omega
  have h48 : ¬ (281474976710656 < (k : Int)) := by omega
  have hzc : (Builtin.zeroCells (Value.int .u8 0).cells k).toList = bytesV (List.replicate k 0) := by
    apply List.ext_getElem?
    intro j
    by_cases hj : j < k
    · simp [Builtin.zeroCells, bytesV, Value.cells, hj, Nat.mod_one]
    · simp [Builtin.zeroCells, bytesV, Value.cells, hj]
  by_cases h0 : k = 0
  · subst h0
    have hst' : (storeCells ⟨g, l.length, none⟩ []).run Try.prog w = .ok () w' := by simpa [bytesV] using hst
    have hr' : l.length ≤ cap := by simpa using hr
    have hw0 : IntKind.i64.wrap 0 = 0 := by rw [IntKind.wrap_i64]; rfl
    simp [Builtin.append_, run_underlying elB.und, run_underlying Try.underlying3, sizeOf, typeInfo, hi, hz1, hz2, asInt, asIntOf, Addr.add_lit, hw0, hst', hr']
  · simp [Builtin.append_, run_underlying elB.und, run_underlying Try.underlying3, sizeOf, typeInfo, zeroValue, hi, hz0, hz1, hz2, asInt, asIntOf, hw, hneg, h48, h0, hr, Addr.add_lit, hzc, hst]
end

/-- an append whose run is known -/
theorem wpList_app {P : Program} {ops : Array Oper} {rest : List Oper} {o : Oper} {a : Act} {w w' : World} {Q : Exit → Act → World → Prop} (hgd : o.guard = none) (s x : Operand) (t u : TypeId)
    (ho : o.op = .call { callee := .builtin .append, args := #[s, x], argTypes := #[t, u] }) {v0 v r : Value} (hs : a.eval s = v0) (hx : a.eval x = v)
    (hrun : ∀ ty, (Builtin.append_ #[t, u] ty #[v0, v]).run P w = .ok r w') (h : wpList P ops Q rest (a.put o.dst r) w') : wpList P ops Q (o :: rest) a w := by
  refine wpList_plain hgd fun K hK => ?_
  unfold Oper.wp execOp
  simp only [ho, resolve, invoke, builtin, Sem.run_bind, Sem.run_pure, Result.andThen_ok, List.map_toArray, List.map_cons, List.map_nil, hs, hx, hrun]
  exact hK _ _ h

theorem below_buf {w0 w w' : World} {g : Nat} (hb : Below w0.heap.size w0 w) (hg : w0.heap.size ≤ g) (h : w.grownBy w' (some g)) : Below w0.heap.size w0 w' :=
  hb.grown h hb.size (fun j hj => by cases hj; exact hg)

/-- what another block holds stays -/
theorem Bk.grow {w w' : World} {p g : Nat} {vs : List Value} (h : Bk w p vs) (hg : w.grownBy w' (some g)) (hp : p ≠ g) : Bk w' p vs :=
  h.keep (hg.block p h.lt (fun e => by cases e; exact hp rfl)) hg.size

set_option maxRecDepth 100000 in
theorem equal_any {w : World} {F G : Nat → Prop} {u v : Value} {k l : List UInt8} (hu : SlB w F u k) (hv : SlB w G v l) :
    Calls Try.prog 41 #[u, v] w fun e w' => e = .returned (.bool (decide (k = l))) ∧ w' = w := by
  have h1 := conv_sg hu
  have h2 := conv_sg hv
  obtain ⟨_, A, c, rfl, _⟩ := hu
  obtain ⟨_, A', c', rfl, _⟩ := hv
  go_enter Try.func41, Try.ntmps41
  go_wp2
  go_ret
  have e : (k == l) = decide (k = l) := by rw [Bool.eq_iff_iff]; simp
  exact ⟨ret_v (v_bool e), rfl⟩

set_option maxRecDepth 100000 in
theorem clone_bytes {w : World} {F : Nat → Prop} {v : Value} {l : List UInt8} (h : SlB w F v l) (hF : ∀ b, F b → b < w.heap.size) (hl : l.length ≤ 1000000) :
    Calls Try.prog 59 #[v] w fun e w' => ∃ v', e = .returned v' ∧ w'.ownsRow w.heap.size 5 1 v' l.length (bytesV l) ∧ Below w.heap.size w w' := by
  have hb0 : Below w.heap.size w (w.alloc (.cells #[] 5)) := (Below.refl _ _).alloc (Nat.le_refl _) _
  have HS := Lib.hid (h.below hb0 hF)
  obtain ⟨_, A, c, rfl, hc, hx⟩ := h
  cases A with
  | none =>
    have hl0 : l = [] := by
      cases l with
      | nil => rfl
      | cons x r => obtain ⟨a, e, _⟩ := hx (by simp); cases e
    subst hl0
    have heq := Lib.run_eql_slice_nil (P := Try.prog) w 44 5 none 0 c 0 0 Try.underlying44
    clear HS hx
    go_enter Try.func59, Try.ntmps59
    go_wp2
    go_ret
    exact ⟨_, rfl, S.own_nil _ _ _ _, Below.refl _ _⟩
  | some a =>
    have heq := Lib.run_eql_slice_nil (P := Try.prog) w 44 5 (some a) l.length c 0 0 Try.underlying44
    clear hx
    go_enter Try.func59, Try.ntmps59
    go_wp2_with (at_builtin; refine S.wpList_append_sg elB rfl _ _ rfl (base := w.heap.size) (xs := []) (cs := bytesV l) rfl rfl (S.own_none 5 1 rfl (Nat.le_refl _)) HS.out (bytesV_one l) (by omega) (by omega) (by simp) ?_)
    intro v1 w1 hown hgrow _
    have hb1 : Below w.heap.size w w1 := hb0.grown hgrow hb0.size (fun j hj => by simp [Value.ownBlock] at hj; omega)
    have HO := Lib.hid (show w1.ownsRow w.heap.size 5 1 v1 l.length (bytesV l) by simpa using hown)
    clear hown hgrow
    go_wp2
    go_ret
    exact ⟨_, rfl, HO.out, hb1⟩

end Go.Proofs.Ytfpojbnidoeohaa
