/-
  Bytes laid one behind the other into room that was made ahead: what each append does there. Copies of bytes, and bytes compared.
  The program's frames: a frame's sector.
  The program's frames: the frame of a sector.
  A loop over what a function hands over, value by value, each with memory of its own: what is asked of the function, and what then holds behind the loop. The loop's body is never left early.
  The program's frames: the function that cuts a record's bodies, and hands each over.
  The program's frames: a record's frames.
-/
import Derived.Test.YtbjbnjpdackloaaJB
import Derived.Lib.AppendStr
import Derived.Lib.SliceRun
import Derived.Test.YtbjbnjpdackloaaJA
import Derived.Deep.QuietTactic
import Derived.BigQuiet
import Derived.Test.YtbjbnjpdackloaaRows
import Derived.RangeFuncBox
import Derived.RangeFuncLeaves
import Derived.RangeFuncCalls
import Derived.Shelf.Abstract
import Derived.OwnWalkIn
import Derived.TacticsInMore
import Derived.LoopNIn
import Derived.LoopIn
namespace Go.Proofs.Ytbjbnjpdackloaa
open Go.RowKit

/-- the block g has room for cap bytes, the first of which are l -/
def Buf (w : World) (g cap : Nat) (l : List UInt8) : Prop :=
  l.length ≤ cap ∧ ∃ cur : Array Value, w.heap[g]? = some (.cells cur 5 (0, 0)) ∧ cur.size = cap ∧ cur.toList.take l.length = bytesV l

section
variable {w w' : World} {g cap n n' : Nat} {l : List UInt8}

theorem Buf.lt (h : Buf w g cap l) : g < w.heap.size := by
  obtain ⟨_, cur, hg, _⟩ := h
  exact (Array.getElem?_eq_some_iff.1 hg).1

theorem Buf.keep (h : Buf w g cap l) (hk : w'.heap[g]? = w.heap[g]?) : Buf w' g cap l := by
  obtain ⟨h0, cur, hg, hc, ht⟩ := h
  exact ⟨h0, cur, hk.trans hg, hc, ht⟩
theorem Buf.step (h : Buf w g cap l) (hb : Below w.heap.size w w') : Buf w' g cap l := h.keep (hb.block g h.lt)

theorem Buf.sl (h : Buf w g cap l) : SlB w (fun b => b = g) (.slice (some ⟨g, 0, none⟩) l.length cap) l := by
  obtain ⟨h0, cur, hg, hc, ht⟩ := h
  refine ⟨by rw [bytesV_length]; omega, _, cap, rfl, h0, fun _ => ⟨_, rfl, rfl, fun j u hj => ?_⟩⟩
  rw [Addr.add_mid, cell_of_row _ _ _ cur 5 (0, 0) hg, Nat.zero_add]
  have hjl := (List.getElem?_eq_some_iff.1 hj).1
  rw [bytesV_length] at hjl
  rw [← ht, List.getElem?_take, if_pos hjl] at hj
  simpa using hj

theorem Buf.of_own {base : Nat} (h : w.ownsRow base 5 1 (.slice (some ⟨g, 0, none⟩) 0 cap) 0 []) : Buf w g cap [] := by
  rcases h.2 with ⟨hv, _⟩ | ⟨g', cap', cur, hv, _, hg, _, _, hcs, _⟩
  · cases hv
  · cases hv
    exact ⟨Nat.zero_le _, cur, hg, by simpa using hcs, by simp [bytesV]⟩

/-- the bytes m, stored behind what is there -/
theorem Buf.store (h : Buf w g cap l) (m : List UInt8) (hr : l.length + m.length ≤ cap) : ∃ w', (storeCells ⟨g, l.length, none⟩ (bytesV m)).run Try.prog w = .ok () w' ∧ Buf w' g cap (l ++ m) ∧ w.grownBy w' (some g) := by
  obtain ⟨h0, cur, hg, hc, ht⟩ := h
  have hst := run_storeCells_at (P := Try.prog) g l.length 5 (bytesV m) 0 cur w hg (by rw [bytesV_length, hc]; omega) (bytesV_one m)
  simp only [Nat.add_zero, bytesV_length] at hst
  refine ⟨_, hst, ⟨by simpa using hr, _, setRow_heap w g cur _ _ _ hg, ?_, ?_⟩, ⟨rfl, rfl, rfl, by simp, fun k _ hk => setRow_other w g k _ (fun e => hk (by rw [e]))⟩⟩
  · simp only [List.size_toArray, List.length_append, List.length_take, List.length_drop, Array.length_toList, bytesV_length]
    omega
  · rw [ht, bytesV_append, ← bytesV_append]
    have e : (l ++ m).length = (bytesV (l ++ m)).length := by rw [bytesV_length]
    rw [e]
    exact List.take_left

theorem underI : ∃ k, Try.prog.underlying 3 = some (.int k) := ⟨_, Try.underlying3⟩

theorem Buf.string (h : Buf w g cap l) (m : List UInt8) (hn : l.length = n) (hn' : n + m.length = n') (hr : n' ≤ cap) :
    ∃ w', (∀ ty, (Builtin.append_ #[37, 9] ty #[.slice (some ⟨g, 0, none⟩) n cap, .string ⟨m.toArray⟩]).run Try.prog w = .ok (.slice (some ⟨g, 0, none⟩) n' cap) w') ∧ Buf w' g cap (l ++ m) ∧ w.grownBy w' (some g) := by
  subst hn hn'
  obtain ⟨i, z, hi, hz0, hz1, hz2, hz3⟩ := elB.info
  obtain ⟨w', hst, hB, hG⟩ := h.store m hr
  refine ⟨w', fun ty => ?_, hB, hG⟩
  have hf := Lib.run_firstCells_string (P := Try.prog) w 1 ⟨m.toArray⟩
  have hsz : (⟨m.toArray⟩ : ByteArray).size = m.length := by simp [ByteArray.size]
  have hcs : Lib.strCells ⟨m.toArray⟩ = bytesV m := by simp [Lib.strCells, bytesV]
  rw [hsz, hcs] at hf
  simp [Builtin.append_, run_underlying elB.und, run_underlying Try.underlying9, sizeOf, typeInfo, hi, hz1, Builtin.lenOf, hsz, hr, hf, Addr.add_lit, hst]

theorem Buf.slice {F : Nat → Prop} {v : Value} (h : Buf w g cap l) {m : List UInt8} (hm : SlB w F v m) (hn : l.length = n) (hn' : n + m.length = n') (hr : n' ≤ cap) :
    ∃ w', (∀ ty, (Builtin.append_ #[37, 37] ty #[.slice (some ⟨g, 0, none⟩) n cap, v]).run Try.prog w = .ok (.slice (some ⟨g, 0, none⟩) n' cap) w') ∧ Buf w' g cap (l ++ m) ∧ w.grownBy w' (some g) := by
  subst hn hn'
  obtain ⟨i, z, hi, hz0, hz1, hz2, hz3⟩ := elB.info
  obtain ⟨w', hst, hB, hG⟩ := h.store m hr
  refine ⟨w', fun ty => ?_, hB, hG⟩
  obtain ⟨_, A, c, rfl, hc, hx⟩ := hm
  have hf : (Builtin.firstCells 1 m.length (.slice A m.length c)).run Try.prog w = .ok (bytesV m).toArray w := by
    by_cases h0 : m.length = 0
    · obtain rfl : m = [] := List.length_eq_zero_iff.1 h0
      cases A with
      | none => simp [Builtin.firstCells, bytesV]
      | some a => exact run_firstCells_some (P := Try.prog) w 1 _ a _ c (bytesV []) (by simp [bytesV]) (fun j u hj => by simp [bytesV] at hj)
    · obtain ⟨a, rfl, _, hx⟩ := hx h0
      exact run_firstCells_some (P := Try.prog) w 1 _ a _ c (bytesV m) (by rw [bytesV_length]; omega) hx
  simp [Builtin.append_, run_underlying elB.und, sizeOf, typeInfo, hi, hz1, Builtin.lenOf, hr, hf, Addr.add_lit, hst]

theorem Buf.zeros (h : Buf w g cap l) (k : Nat) (hn : l.length = n) (hn' : n + k = n') (hr : n' ≤ cap) (hk : k ≤ 1000000) :
    ∃ w', (∀ ty, (Builtin.append_ #[37, 3] ty #[.slice (some ⟨g, 0, none⟩) n cap, .int .i64 (k : Int)]).run Try.prog w = .ok (.slice (some ⟨g, 0, none⟩) n' cap) w') ∧ Buf w' g cap (l ++ List.replicate k 0) ∧ w.grownBy w' (some g) := by
  subst hn hn'
  obtain ⟨i, z, hi, hz0, hz1, hz2, hz3⟩ := elB.info
  obtain ⟨i5, hi5, hz50, _⟩ := info_parts (show (Try.prog.info? 5).map (fun i => (i.zero, i.size, i.bytes)) = some (some (.int .u8 0), 1, 1) by kernel_rfl)
  rw [hi] at hi5
  cases hi5
  rw [hz0] at hz50
  cases hz50
  obtain ⟨w', hst, hB, hG⟩ := h.store (List.replicate k 0) (by simpa using hr)
  refine ⟨w', fun ty => ?_, hB, hG⟩
  have hw : IntKind.i64.wrap (k : Int) = k := by rw [IntKind.wrap_i64]; omega
  have hneg : ¬ ((k : Int) < 0) := by omega
  have h48 : ¬ (281474976710656 < (k : Int)) := by omega
  have hzc : (Builtin.zeroCells (Value.int .u8 0).cells k).toList = bytesV (List.replicate k 0) := by
    apply List.ext_getElem?
    intro j
    by_cases hj : j < k
    · simp [Builtin.zeroCells, bytesV, Value.cells, hj, Nat.mod_one]
    · simp [Builtin.zeroCells, bytesV, Value.cells, hj]
  by_cases h0 : k = 0
  · subst h0
    have hst' : (storeCells ⟨g, l.length, none⟩ []).run Try.prog w = .ok () w' := by simpa [bytesV] using hst
    have hr' : l.length ≤ cap := by simpa using hr
    have hw0 : IntKind.i64.wrap 0 = 0 := by rw [IntKind.wrap_i64]; rfl
    simp [Builtin.append_, run_underlying elB.und, run_underlying Try.underlying3, sizeOf, typeInfo, hi, hz1, hz2, asInt, asIntOf, Addr.add_lit, hw0, hst', hr']
  · simp [Builtin.append_, run_underlying elB.und, run_underlying Try.underlying3, sizeOf, typeInfo, zeroValue, hi, hz0, hz1, hz2, asInt, asIntOf, hw, hneg, h48, h0, hr, Addr.add_lit, hzc, hst]
end

/-- an append whose run is known -/
theorem wpList_app {P : Program} {ops : Array Oper} {rest : List Oper} {o : Oper} {a : Act} {w w' : World} {Q : Exit → Act → World → Prop} (hgd : o.guard = none) (s x : Operand) (t u : TypeId)
    (ho : o.op = .call { callee := .builtin .append, args := #[s, x], argTypes := #[t, u] }) {v0 v r : Value} (hs : a.eval s = v0) (hx : a.eval x = v)
    (hrun : ∀ ty, (Builtin.append_ #[t, u] ty #[v0, v]).run P w = .ok r w') (h : wpList P ops Q rest (a.put o.dst r) w') : wpList P ops Q (o :: rest) a w := by
  refine wpList_plain hgd fun K hK => ?_
  unfold Oper.wp execOp
  simp only [ho, resolve, invoke, builtin, Sem.run_bind, Sem.run_pure, Result.andThen_ok, List.map_toArray, List.map_cons, List.map_nil, hs, hx, hrun]
  exact hK _ _ h

theorem below_buf {w0 w w' : World} {g : Nat} (hb : Below w0.heap.size w0 w) (hg : w0.heap.size ≤ g) (h : w.grownBy w' (some g)) : Below w0.heap.size w0 w' :=
  hb.grown h hb.size (fun j hj => by cases hj; exact hg)

/-- what another block holds stays -/
theorem Bk.grow {w w' : World} {p g : Nat} {vs : List Value} (h : Bk w p vs) (hg : w.grownBy w' (some g)) (hp : p ≠ g) : Bk w' p vs :=
  h.keep (hg.block p h.lt (fun e => by cases e; exact hp rfl)) hg.size

set_option maxRecDepth 100000 in
theorem equal_any {w : World} {F G : Nat → Prop} {u v : Value} {k l : List UInt8} (hu : SlB w F u k) (hv : SlB w G v l) :
    Calls Try.prog 57 #[u, v] w fun e w' => e = .returned (.bool (decide (k = l))) ∧ w' = w := by
  have h1 := conv_sg hu
  have h2 := conv_sg hv
  obtain ⟨_, A, c, rfl, _⟩ := hu
  obtain ⟨_, A', c', rfl, _⟩ := hv
  go_enter Try.func57, Try.ntmps57
  go_wp2
  go_ret
  have e : (k == l) = decide (k = l) := by rw [Bool.eq_iff_iff]; simp
  exact ⟨ret_v (v_bool e), rfl⟩

set_option maxRecDepth 100000 in
theorem clone_bytes {w : World} {F : Nat → Prop} {v : Value} {l : List UInt8} (h : SlB w F v l) (hF : ∀ b, F b → b < w.heap.size) (hl : l.length ≤ 1000000) :
    Calls Try.prog 60 #[v] w fun e w' => ∃ v', e = .returned v' ∧ w'.ownsRow w.heap.size 5 1 v' l.length (bytesV l) ∧ Below w.heap.size w w' := by
  have hb0 : Below w.heap.size w (w.alloc (.cells #[] 5)) := (Below.refl _ _).alloc (Nat.le_refl _) _
  have HS := Lib.hid (h.below hb0 hF)
  obtain ⟨_, A, c, rfl, hc, hx⟩ := h
  cases A with
  | none =>
    have hl0 : l = [] := by
      cases l with
      | nil => rfl
      | cons x r => obtain ⟨a, e, _⟩ := hx (by simp); cases e
    subst hl0
    have heq := Lib.run_eql_slice_nil (P := Try.prog) w 37 5 none 0 c 0 0 Try.underlying37
    clear HS hx
    go_enter Try.func60, Try.ntmps60
    go_wp2
    go_ret
    exact ⟨_, rfl, S.own_nil _ _ _ _, Below.refl _ _⟩
  | some a =>
    have heq := Lib.run_eql_slice_nil (P := Try.prog) w 37 5 (some a) l.length c 0 0 Try.underlying37
    clear hx
    go_enter Try.func60, Try.ntmps60
    go_wp2_with (at_builtin; refine S.wpList_append_sg elB rfl _ _ rfl (base := w.heap.size) (xs := []) (cs := bytesV l) rfl rfl (S.own_none 5 1 rfl (Nat.le_refl _)) HS.out (bytesV_one l) (by omega) (by omega) (by simp) ?_)
    intro v1 w1 hown hgrow _
    have hb1 : Below w.heap.size w w1 := hb0.grown hgrow hb0.size (fun j hj => by simp [Value.ownBlock] at hj; omega)
    have HO := Lib.hid (show w1.ownsRow w.heap.size 5 1 v1 l.length (bytesV l) by simpa using hown)
    clear hown hgrow
    go_wp2
    go_ret
    exact ⟨_, rfl, HO.out, hb1⟩

end Go.Proofs.Ytbjbnjpdackloaa

namespace Go.Proofs.Ytbjbnjpdackloaa
open Go.RowKit

theorem info25 : (Try.prog.info? 5).map (fun i => (i.zero, i.size, i.bytes)) = some (some (.int .u8 0), 1, 1) := by kernel_rfl

/-- the two bytes ahead of a body, as they are laid -/
theorem sl_two (w : World) (c d : UInt8) : SlB (w.alloc (.cells #[.int .u8 (c.toNat : Int), .int .u8 (d.toNat : Int)] 5)) (fun b => b = w.heap.size) (.slice (some ⟨w.heap.size, 0, none⟩) 2 2) [c, d] :=
  ⟨rfl, _, 2, rfl, Nat.le_refl _, fun _ => ⟨_, rfl, rfl, fun j u hj => by
    rw [Addr.add_mid, cell_of_row _ _ _ #[.int .u8 (c.toNat : Int), .int .u8 (d.toNat : Int)] 5 (0, 0) (heap_alloc_new w _), Nat.zero_add]
    simpa [bytesV] using hj⟩⟩

set_option maxRecDepth 100000 in
theorem pack_long {w : World} {F : Nat → Prop} {v : Value} {f : R.Fr} (h : FrV w F v f) (hl : 50 < f.body.length) (hl' : f.body.length ≤ 1000) :
    Calls Try.prog 40 #[v] w fun r w' => r = .returned (.tuple #[nilB, .int .i64 3]) ∧ Below w.heap.size w w' := by
  obtain ⟨vb, rfl, hb⟩ := h
  obtain ⟨_, A, cap, rfl, hc, _⟩ := hb
  have hgt : (50 : Int) < (f.body.length : Int) := by omega
  go_enter Try.func40, Try.ntmps40
  go_wp2
  go_ret2
  exact ⟨rfl, (Below.refl _ _).alloc (Nat.le_refl _) _⟩

set_option maxRecDepth 100000 in
set_option maxHeartbeats 1000000 in
theorem pack_fits {w : World} {F : Nat → Prop} {v : Value} {f : R.Fr} (h : FrV w F v f) (hF : ∀ b, F b → b < w.heap.size) (hn : f.Num) (hl : f.body.length ≤ 50) :
    Calls Try.prog 40 #[v] w fun r w' => ∃ vb, r = .returned (.tuple #[vb, .int .i64 0]) ∧ SlB w' (S.New w w') vb (R.sector f) ∧ Below w.heap.size w w' := by
  obtain ⟨vb, rfl, hb⟩ := h
  obtain ⟨E, q, fl, b⟩ := f
  obtain ⟨hE, hQ⟩ := hn
  simp only at hb hl hE hQ ⊢
  obtain ⟨A, cap, rfl, hc⟩ : ∃ A cap, vb = .slice A b.length cap ∧ b.length ≤ cap := by obtain ⟨_, A, cap, e, hc, _⟩ := hb; exact ⟨A, cap, e, hc⟩
  obtain ⟨i5, hi5, hz0, hz1, hz2⟩ := info_parts info25
  have HB5 := Lib.hid (show i5.bytes * 64 ≤ 281474976710656 by rw [hz2]; decide)
  have hgt : ¬ (50 : Int) < (b.length : Int) := by omega
  have HBD := Lib.hid hb
  have HF := Lib.hid hF
  have hb0 : Below w.heap.size w (w.alloc (.cells #[.int .u32 (E : Int), .int .u32 (q : Int), .int .u8 (fl.toNat : Int), .slice A b.length cap] 77)) := (Below.refl _ _).alloc (Nat.le_refl _) _
  have R0 := Bk.new w [.int .u32 (E : Int), .int .u32 (q : Int), .int .u8 (fl.toNat : Int), .slice A b.length cap] 77 (g := w.heap.size) rfl
  clear hb hF
  go_enter Try.func40, Try.ntmps40
  go_wp2_with (at_make; refine wpList_make_own _ rfl _ _ 37 rfl w.heap.size 5 i5 (.int .u8 0) 1 Try.underlying37 hi5 hz0 hz1 .i64 .i64 64 64 rfl rfl rfl HB5.out (by decide) (by simp) ?_)
  intro w1 hown hgrow
  have hbm := (Below.refl _ _).grown hgrow (Nat.le_refl _) (fun j hj => by cases hj)
  have B1 := Buf.of_own hown
  have R1 := R0.step hbm
  have hb1 := below_two hb0 hbm
  obtain ⟨g, hg⟩ : ∃ g, g = w.heap.size + 1 := ⟨_, rfl⟩
  rw [← hg] at B1
  rw [← hg]
  have hgw : w.heap.size < g := by omega
  clear hown hgrow hbm hb0 R0 hg
  have c0 := R1.cell 0 _ rfl
  -- the numbers
  go_wp2_with fail
  refine (num_any E w1 hE).mono ?_
  rintro e w2 ⟨rfl, hb2⟩
  have R2 := R1.step hb2
  have B2 := B1.step hb2
  have hb2' := below_two hb1 hb2
  obtain ⟨w3, hr3, B3, hg3⟩ := B2.string (M.hiB 4 E) (n := 0) (n' := 4) rfl (by rw [M.hiB_len]) (by decide)
  have R3 := R2.grow hg3 (by omega)
  have hb3 := below_buf hb2' (by omega) hg3
  have HA := Lib.hid hr3
  have c1 := R3.cell 1 _ rfl
  clear R1 B1 hb1 hb2 R2 B2 hb2' hg3 hr3 c0
  go_wp2_with (at_builtin; refine wpList_app rfl _ _ 37 9 rfl rfl rfl HA.out ?_)
  clear HA
  refine (num_any q w3 hQ).mono ?_
  rintro e w4 ⟨rfl, hb4⟩
  have R4 := R3.step hb4
  have B4 := B3.step hb4
  have hb4' := below_two hb3 hb4
  obtain ⟨w5, hr5, B5, hg5⟩ := B4.string (M.hiB 4 q) (n := 4) (n' := 8) (by simp [M.hiB_len]) (by rw [M.hiB_len]) (by decide)
  have R5 := R4.grow hg5 (by omega)
  have hb5 := below_buf hb4' (by omega) hg5
  have HA := Lib.hid hr5
  have c2 := R5.cell 2 _ rfl
  have c3 := R5.cell 3 _ rfl
  clear R3 B3 hb3 hb4 R4 B4 hb4' hg5 hr5 c1
  -- the flag and how many
  obtain ⟨d, hd⟩ : ∃ d, d = UInt8.ofNat b.length := ⟨_, rfl⟩
  have hdn : (d.toNat : Int) = (b.length : Int) := by rw [hd]; simp; omega
  have s2 := sl_two w5 fl d
  rw [hdn] at s2
  have B6 := B5.step ((Below.refl w5.heap.size w5).alloc (Nat.le_refl _) (.cells #[.int .u8 (fl.toNat : Int), .int .u8 (b.length : Int)] 5))
  have R6 := R5.alloc (.cells #[.int .u8 (fl.toNat : Int), .int .u8 (b.length : Int)] 5)
  have hb6 := hb5.alloc hb5.size (.cells #[.int .u8 (fl.toNat : Int), .int .u8 (b.length : Int)] 5)
  obtain ⟨w7, hr7, B7, hg7⟩ := B6.slice s2 (n := 8) (n' := 10) (by simp [M.hiB_len]) rfl (by decide)
  clear s2
  have R7 := R6.grow hg7 (by omega)
  have hb7 := below_buf hb6 (by omega) hg7
  have HA7 := Lib.hid hr7
  have c37 := R7.cell 3 _ rfl
  clear R5 B5 hb5 R6 B6 hb6 hg7 hr7
  -- the body
  obtain ⟨w8, hr8, B8, hg8⟩ := B7.slice (HBD.out.below hb7 HF.out) (n := 10) (n' := 10 + b.length) (by simp [M.hiB_len]) rfl (by omega)
  have R8 := R7.grow hg8 (by omega)
  have hb8 := below_buf hb7 (by omega) hg8
  have HA8 := Lib.hid hr8
  have c38 := R8.cell 3 _ rfl
  clear R7 B7 hb7 hg8 hr8
  -- the zeros
  obtain ⟨w9, hr9, B9, hg9⟩ := B8.zeros (50 - b.length) (n := 10 + b.length) (n' := 60) (by simp [M.hiB_len]; omega) (by omega) (by decide) (by omega)
  have hb9 := below_buf hb8 (by omega) hg9
  have hkz : ((50 - b.length : Nat) : Int) = 50 - (b.length : Int) := by omega
  rw [hkz] at hr9
  have HA9 := Lib.hid hr9
  clear R8 B8 hb8 hg9 hr9
  have e60 : [] ++ M.hiB 4 E ++ M.hiB 4 q ++ [fl, d] ++ b ++ List.replicate (50 - b.length) 0 = R.sixty ⟨E, q, fl, b⟩ := by
    rw [hd]; simp [R.sixty, R.head]
  rw [e60] at B9
  clear hd hkz
  have HD := Lib.hid hdn
  clear hdn e60
  have HO := Lib.hid (of_any _ _ w9 _ (fun b hb => by rw [hb]; exact B9.lt) B9.sl (by unfold maxLen; rw [R.sixty_len hl]; omega))
  rw [R.sixty_len hl] at HO
  go_wp2_with (first | (at_builtin; refine wpList_app rfl _ _ 37 9 rfl rfl rfl HA.out ?_; clear HA) | (at_builtin; refine wpList_app rfl _ _ 37 37 rfl rfl rfl HA7.out ?_; clear HA7) | (at_builtin; refine wpList_app rfl _ _ 37 37 rfl rfl rfl HA8.out ?_; clear HA8) | (at_builtin; refine wpList_app rfl _ _ 37 3 rfl rfl rfl HA9.out ?_; clear HA9))
  refine HO.out.mono ?_
  rintro e wA ⟨rfl, hbA⟩
  have BA := B9.step hbA
  have hbA' := below_two hb9 hbA
  clear HO B9 hb9 hbA
  have hsum := C.sum_lt (R.sixty ⟨E, q, fl, b⟩)
  go_wp2_with fail
  refine (num_any (C.sum (R.sixty ⟨E, q, fl, b⟩)) wA hsum).mono ?_
  rintro e wB ⟨rfl, hbB⟩
  have BB := BA.step hbB
  have hbB' := below_two hbA' hbB
  obtain ⟨wC, hrC, BC, hgC⟩ := BB.string (M.hiB 4 (C.sum (R.sixty ⟨E, q, fl, b⟩))) (n := 60) (n' := 64) (R.sixty_len hl) (by rw [M.hiB_len]) (by decide)
  have hbC := below_buf hbB' (by omega) hgC
  have HA := Lib.hid hrC
  have hs := BC.sl
  have hlt := BC.lt
  have HS : Hid (SlB wC (S.New w wC) (.slice (some ⟨g, 0, none⟩) 64 64) (R.sector ⟨E, q, fl, b⟩)) := Lib.hid (by
    have hx := hs.wider (G := S.New w wC) (fun b hb => by rw [hb]; exact ⟨by omega, hlt⟩)
    have hl64 : (R.sixty ⟨E, q, fl, b⟩ ++ M.hiB 4 (C.sum (R.sixty ⟨E, q, fl, b⟩))).length = 64 := R.sector_len (f := ⟨E, q, fl, b⟩) hl
    have he := hx
    rw [hl64] at he
    show S.Sg wC _ 1 _ (R.sector ⟨E, q, fl, b⟩).length (bytesV (R.sector ⟨E, q, fl, b⟩))
    rw [R.sector_len hl]
    exact he)
  clear BA hbA' hbB BB hbB' BC hgC hrC hs hlt
  go_wp2_with (at_builtin; refine wpList_app rfl _ _ 37 9 rfl rfl rfl HA.out ?_; clear HA)
  go_ret2
  exact ⟨_, rfl, HS.out, hbC⟩

end Go.Proofs.Ytbjbnjpdackloaa

namespace Go.Proofs.Ytbjbnjpdackloaa
open Go.RowKit

abbrev pz4 : List Value := [.int .u32 0, .int .u32 0, .int .u8 0, .slice none 0 0]
theorem infoPf : (Try.prog.info? 77).map (·.size) = some 4 := by kernel_rfl

theorem FrV.zero (w : World) (F : Nat → Prop) : FrV w F (.agg #[.int .u32 0, .int .u32 0, .int .u8 0, .slice none 0 0]) fr0 := ⟨_, rfl, S.Sg.nil _ _ _ _ _⟩

theorem parse_none {l : List UInt8} (h : R.parse l = none) : parseE l = 2 ∧ parseF l = fr0 := by
  unfold parseE parseF
  rw [h]
  exact ⟨rfl, rfl⟩
theorem parse_yes {l : List UInt8} {f : R.Fr} (h : R.parse l = some f) : parseE l = 0 ∧ parseF l = f := by
  unfold parseE parseF
  rw [h]
  exact ⟨rfl, rfl⟩

set_option maxRecDepth 100000 in
theorem pparse_len {w : World} {F : Nat → Prop} {v : Value} {l : List UInt8} (h : SlB w F v l) (hl : l.length ≠ 64) (_hl : l.length ≤ 1000) :
    Calls Try.prog 48 #[v] w fun r w' => r = .returned (.tuple #[.agg #[.int .u32 0, .int .u32 0, .int .u8 0, .slice none 0 0], .int .i64 2]) ∧ Below w.heap.size w w' := by
  obtain ⟨_, A, cap, rfl, hc, _⟩ := h
  have h' : ((l.length : Int) != 64) = true := by simp; omega
  have hP := Bk.new w pz4 77 rfl
  have hb0 : Below w.heap.size w (w.alloc (.cells #[.int .u32 0, .int .u32 0, .int .u8 0, .slice none 0 0] 77)) := (Below.refl _ _).alloc (Nat.le_refl _) _
  go_enter Try.func48, Try.ntmps48
  go_wp2
  refine bodyPost_ret (results_bk_1 rfl _ rfl hP Try.underlying77 rfl infoPf) rfl ⟨rfl, hb0⟩

/-- the parts of a sector, as the program takes them -/
theorem sector_parts (l : List UInt8) (h : l.length = 64) : ∃ (e n : Nat) (c d : UInt8) (s1 s2 : ByteArray), s1.size = 60 ∧ s2.size = 56 ∧ e < 4294967296 ∧ n < 4294967296 ∧ (∀ w, Calls Try.prog 56 #[.string ⟨l.toArray⟩] w fun r w' => r = .returned (.tuple #[.int .u32 (e : Int), .string s1, .int .i64 0]) ∧ Below w.heap.size w w') ∧
    (∀ w, Calls Try.prog 56 #[.string s1] w fun r w' => r = .returned (.tuple #[.int .u32 (n : Int), .string s2, .int .i64 0]) ∧ Below w.heap.size w w') ∧ s2.data.toList = l.drop 8 ∧ l.getD 8 0 = d ∧ l.getD 9 0 = c ∧
    R.cand l = ⟨e, n, d, (l.drop 10).take c.toNat⟩ := by
  have hs : (⟨l.toArray⟩ : ByteArray).size = 64 := by simpa [ByteArray.size] using h
  obtain ⟨s, hsd⟩ : ∃ s : ByteArray, s = ⟨l.toArray⟩ := ⟨_, rfl⟩
  have hsl : s.data.toList = l := by rw [hsd]
  rw [← hsd] at hs ⊢
  have h1 : (s.extract 4 s.size).data.toList = l.drop 4 := by
    rw [← hsl]; simp
    rw [List.take_of_length_le (by simp)]
  have z1 : (s.extract 4 s.size).size = 60 := by simp; omega
  obtain ⟨s1, hs1⟩ : ∃ s1, s1 = s.extract 4 s.size := ⟨_, rfl⟩
  rw [← hs1] at h1 z1
  have h2 : (s1.extract 4 s1.size).data.toList = l.drop 8 := by
    have : l.drop 8 = (l.drop 4).drop 4 := by rw [List.drop_drop]
    rw [this, ← h1]; simp
    rw [List.take_of_length_le (by simp)]
  have z2 : (s1.extract 4 s1.size).size = 56 := by simp; omega
  refine ⟨M.num (l.take 4), M.num ((l.drop 4).take 4), l.getD 9 0, l.getD 8 0, s1, s1.extract 4 s1.size, z1, z2, R.num4_lt _, R.num4_lt _, fun w => ?_, fun w => ?_, h2, rfl, rfl, rfl⟩
  · have := takeNum_any s w (by unfold maxLen; omega)
    rw [tnV_yes (by omega), hsl, ← hs1] at this
    exact this
  · have := takeNum_any s1 w (by unfold maxLen; omega)
    rw [tnV_yes (by omega), h1] at this
    exact this

set_option maxRecDepth 100000 in
set_option maxHeartbeats 1000000 in
theorem pparse_more {w : World} {F : Nat → Prop} {v : Value} {l : List UInt8} (h : SlB w F v l) (hF : ∀ b, F b → b < w.heap.size) (hl : l.length = 64) :
    Calls Try.prog 48 #[v] w fun r w' => ∃ vf, r = .returned (.tuple #[vf, .int .i64 (parseE l)]) ∧ FrV w' (S.New w w') vf (parseF l) ∧ Below w.heap.size w w' := by
  have HS := Lib.hid h
  have HF := Lib.hid hF
  obtain ⟨A, cap, rfl, hc⟩ : ∃ A cap, v = .slice A 64 cap ∧ 64 ≤ cap := by obtain ⟨_, A, cap, e, hc, _⟩ := h; rw [hl] at e hc; exact ⟨A, cap, e, hc⟩
  have hP := Lib.hid (Bk.new w pz4 77 rfl)
  have hb0 : Below w.heap.size w (w.alloc (.cells #[.int .u32 0, .int .u32 0, .int .u8 0, .slice none 0 0] 77)) := (Below.refl _ _).alloc (Nat.le_refl _) _
  obtain ⟨e, n, c, d, s1, s2, z1, z2, he, hn, ht1, ht2, h2, h8, h9, hcand⟩ := sector_parts l hl
  have hcv := conv_sg (h.below hb0 hF)
  have HT1 := Lib.hid ht1
  have HT2 := Lib.hid ht2
  have H2 := Lib.hid h2
  have HC := Lib.hid hcand
  have H9 := Lib.hid h9
  have i0 : s2[0]'(by omega) = d := by
    rw [← getD_byte s2 0 (by omega), h2, ← h8]; simp
  have i1 : s2[1]'(by omega) = c := by
    rw [← getD_byte s2 1 (by omega), h2, ← h9]; simp
  have HL := Lib.hid hl
  clear h hF ht1 ht2 h2 h8 h9 hcand hl
  go_enter Try.func48, Try.ntmps48
  go_wp2_with fail
  refine (HT1.out _).mono ?_
  rintro r w1 ⟨rfl, hb1⟩
  go_wp2_with fail
  refine (HT2.out _).mono ?_
  rintro r w2 ⟨rfl, hb2⟩
  have hb2' := below_two (below_two hb0 hb1) hb2
  have P2 := Lib.hid ((hP.out.step hb1).step hb2)
  clear hP hb0 hb1 hb2 hcv HT1 HT2
  go_wp2_with fail
  go_quiet (fail)
  rename_i nq
  obtain ⟨W, hW⟩ : ∃ W, w2.drewN nq = W := ⟨_, rfl⟩
  have hbW : Below w.heap.size w W := by rw [← hW]; exact below_drewN hb2' nq
  have PW : Bk W w.heap.size pz4 := by rw [← hW]; exact P2.out.keep rfl (Nat.le_refl _)
  rw [hW]
  clear hW P2 hb2'
  obtain ⟨p, hp⟩ : ∃ p, p = w.heap.size := ⟨_, rfl⟩
  rw [← hp] at PW
  rw [← hp]
  have hpw : w.heap.size ≤ p := by omega
  have HP := Lib.hid hp
  clear hp
  have hwc : wrap64 (c.toNat : Int) = (c.toNat : Int) := by have := c.toNat_lt; unfold wrap64; omega
  obtain ⟨s3, hs3⟩ : ∃ s3, s3 = s2.extract 2 56 := ⟨_, rfl⟩
  have z3 : s3.size = 54 := by rw [hs3]; simp; omega
  have HX : Hid (s3.extract 0 c.toNat = ⟨((l.drop 10).take c.toNat).toArray⟩) := Lib.hid (by
    apply ByteArray.ext
    apply Array.toList_inj.1
    rw [hs3, show l.drop 10 = (l.drop 8).drop 2 by rw [List.drop_drop], ← H2.out]
    simp
    omega)
  rw [← hs3]
  clear hs3 i0 i1 z1 z2
  by_cases h9 : 50 < c.toNat
  · have h9' : (50 : Int) < (c.toNat : Int) := by omega
    have c0 := PW.cell 0 _ rfl
    have c1 := PW.cell 1 _ rfl
    have c2 := PW.cell 2 _ rfl
    have c3 := PW.cell 3 _ rfl
    have f0 := PW.fz 0 (by simp)
    have f1 := PW.fz 1 (by simp)
    have f2 := PW.fz 2 (by simp)
    have f3 := PW.fz 3 (by simp)
    have P4 := Lib.hid (PW.all4 (.int .u32 0) (.int .u32 0) (.int .u8 0) (.slice none 0 0))
    have hb4 := (((hbW.setCell (p := ⟨p, 0, none⟩) hpw (.int .u32 0)).setCell (p := ⟨p, 1, none⟩) hpw (.int .u32 0)).setCell (p := ⟨p, 2, none⟩) hpw (.int .u8 0)).setCell (p := ⟨p, 3, none⟩) hpw (.slice none 0 0)
    have hnone : R.parse l = none := by rw [R.parse, if_neg (fun g => by have := g.2.1; rw [H9.out] at this; omega)]
    have HN := Lib.hid (parse_none hnone)
    clear PW hbW hnone
    go_wp2
    refine bodyPost_ret (results_bk_1 rfl _ rfl P4.out Try.underlying77 rfl infoPf) rfl ⟨_, by rw [HN.out.1]; rfl, by rw [HN.out.2]; exact FrV.zero _ _, hb4⟩
  · have h9' : ¬ (50 : Int) < (c.toNat : Int) := by omega
    have hlen : ((l.drop 10).take c.toNat).length = c.toNat := by rw [List.length_take, List.length_drop, HL.out]; omega
    obtain ⟨cp, w3, hcv3, hsb, hb3⟩ := conv_bytes W ((l.drop 10).take c.toNat)
    rw [← HX.out, hlen] at hcv3
    obtain ⟨g, hg⟩ : ∃ g, g = W.heap.size := ⟨_, rfl⟩
    rw [← hg] at hcv3 hsb
    have hgw : w.heap.size ≤ g := by have := hbW.size; omega
    clear hg
    have hpW := PW.lt
    obtain ⟨bl, hbl⟩ : ∃ bl, bl = (l.drop 10).take c.toNat := ⟨_, rfl⟩
    rw [← hbl] at hsb hlen
    have hcand := HC.out
    rw [← hbl] at hcand
    have hsb1 : SlB w3 (S.New W w3) (.slice (some ⟨g, 0, none⟩) c.toNat cp) bl := by
      have := hsb
      rw [show Value.slice (some ⟨g, 0, none⟩) bl.length cp = .slice (some ⟨g, 0, none⟩) c.toNat cp by rw [hlen]] at this
      exact this
    have hba : Below w3.heap.size w3 (w3.alloc (.cells #[.int .u32 (e : Int), .int .u32 (n : Int), .int .u8 (d.toNat : Int), .slice (some ⟨g, 0, none⟩) c.toNat cp] 77)) := (Below.refl _ _).alloc (Nat.le_refl _) _
    have hV : FrV (w3.alloc (.cells #[.int .u32 (e : Int), .int .u32 (n : Int), .int .u8 (d.toNat : Int), .slice (some ⟨g, 0, none⟩) c.toNat cp] 77)) (S.New W w3) (.agg #[.int .u32 (e : Int), .int .u32 (n : Int), .int .u8 (d.toNat : Int), .slice (some ⟨g, 0, none⟩) c.toNat cp]) ⟨e, n, d, bl⟩ :=
      ⟨_, rfl, hsb1.below hba (fun b hb => hb.2)⟩
    have HK := Lib.hid (pack_fits hV (fun b hb => by have := hb.2; simp; omega) ⟨he, hn⟩ (by show bl.length ≤ 50; omega))
    have G4 := Lib.hid (Bk.new w3 [.int .u32 (e : Int), .int .u32 (n : Int), .int .u8 (d.toNat : Int), .slice (some ⟨g, 0, none⟩) c.toNat cp] 77 rfl)
    have hb3' := below_two hbW hb3
    have hb4' := below_two hb3' hba
    have P4 := Lib.hid ((PW.step hb3).step hba)
    have HB := Lib.hid hsb1
    have HBA := Lib.hid hba
    have hw3 := hb3.size
    have HLn := Lib.hid hlen
    have HCD := Lib.hid hcand
    clear hsb hV PW hb3 hbl hcand hsb1 hba hlen hbW
    go_wp2_with fail
    refine HK.out.mono ?_
    rintro r w5 ⟨vs, rfl, hs5, hb5⟩
    have hl64 : (R.sector ⟨e, n, d, bl⟩).length = 64 := R.sector_len (by show bl.length ≤ 50; have := HLn.out; omega)
    obtain ⟨A5, cp5, rfl, hc5⟩ : ∃ A cap, vs = .slice A 64 cap ∧ 64 ≤ cap := by obtain ⟨_, A, cap, e, hc, _⟩ := hs5; rw [hl64] at e hc; exact ⟨A, cap, e, hc⟩
    have hb5' := below_two hb4' hb5
    have HE := Lib.hid (equal_any hs5 (HS.out.below hb5' HF.out))
    have G5 := G4.out.step hb5
    have P5 := P4.out.step hb5
    have HB5 := Lib.hid ((HB.out.below HBA.out (fun b hb => hb.2)).below hb5 (fun b hb => Nat.lt_of_lt_of_le hb.2 HBA.out.size))
    obtain ⟨g2, hg2⟩ : ∃ g2, g2 = w3.heap.size := ⟨_, rfl⟩
    have h3g : w3.heap.size ≤ g2 := by omega
    rw [← hg2] at G5
    rw [← hg2]
    have hsz5 : w3.heap.size ≤ w5.heap.size := Nat.le_trans HBA.out.size hb5.size
    have c0 := P5.cell 0 _ rfl
    have c1 := P5.cell 1 _ rfl
    have c2 := P5.cell 2 _ rfl
    have c3 := P5.cell 3 _ rfl
    have f0 := P5.fz 0 (by simp)
    have f1 := P5.fz 1 (by simp)
    have f2 := P5.fz 2 (by simp)
    have f3 := P5.fz 3 (by simp)
    clear HK hs5 hb4' hb5 G4 P4 hl64 hg2 hb3' HB HBA
    by_cases heq : R.sector ⟨e, n, d, bl⟩ = l
    · rw [show decide (R.sector ⟨e, n, d, bl⟩ = l) = true from decide_eq_true heq] at HE
      have hyes : R.parse l = some ⟨e, n, d, bl⟩ := by
        rw [R.parse, HCD.out, if_pos ⟨HL.out, by rw [H9.out]; omega, heq⟩]
      have HY := Lib.hid (parse_yes hyes)
      have d0 := G5.cell 0 _ rfl
      have d1 := G5.cell 1 _ rfl
      have d2 := G5.cell 2 _ rfl
      have d3 := G5.cell 3 _ rfl
      have P6 := Lib.hid (P5.all4 (.int .u32 (e : Int)) (.int .u32 (n : Int)) (.int .u8 (d.toNat : Int)) (.slice (some ⟨g, 0, none⟩) c.toNat cp))
      have hb6 := (((hb5'.setCell (p := ⟨p, 0, none⟩) hpw (.int .u32 (e : Int))).setCell (p := ⟨p, 1, none⟩) hpw (.int .u32 (n : Int))).setCell (p := ⟨p, 2, none⟩) hpw (.int .u8 (d.toNat : Int))).setCell (p := ⟨p, 3, none⟩) hpw (.slice (some ⟨g, 0, none⟩) c.toNat cp)
      have hnp : ¬ S.New W w3 p := fun h => by have := h.1; omega
      have HB6 := Lib.hid ((((HB5.out.set hnp 0 (.int .u32 (e : Int))).set hnp 1 (.int .u32 (n : Int))).set hnp 2 (.int .u8 (d.toNat : Int))).set hnp 3 (.slice (some ⟨g, 0, none⟩) c.toNat cp))
      have hszW : w.heap.size ≤ W.heap.size := by have := HP.out; omega
      have HSZ : Hid (w3.heap.size ≤ ((((w5.setCell ⟨p, 0, none⟩ (.int .u32 (e : Int))).setCell ⟨p, 1, none⟩ (.int .u32 (n : Int))).setCell ⟨p, 2, none⟩ (.int .u8 (d.toNat : Int))).setCell ⟨p, 3, none⟩ (.slice (some ⟨g, 0, none⟩) c.toNat cp)).heap.size) := Lib.hid (by simpa [World.setCell] using hsz5)
      clear heq hyes P5 G5 HB5 hb5'
      go_wp2_with fail
      refine HE.out.mono ?_
      rintro r w6 ⟨rfl, hw6⟩
      have hw6' := hw6.symm
      subst hw6'
      clear HE
      go_wp2
      refine bodyPost_ret (results_bk_1 rfl _ rfl P6.out Try.underlying77 rfl infoPf) rfl ⟨_, by rw [HY.out.1]; rfl, ?_, hb6⟩
      rw [HY.out.2]
      exact ⟨_, rfl, HB6.out.wider (fun b hb => ⟨Nat.le_trans hszW hb.1, Nat.lt_of_lt_of_le hb.2 HSZ.out⟩)⟩
    · rw [show decide (R.sector ⟨e, n, d, bl⟩ = l) = false from decide_eq_false heq] at HE
      have hnone : R.parse l = none := by
        rw [R.parse, HCD.out, if_neg (fun g => heq g.2.2)]
      have HN := Lib.hid (parse_none hnone)
      have P6 := Lib.hid (P5.all4 (.int .u32 0) (.int .u32 0) (.int .u8 0) (.slice none 0 0))
      have hb6 := (((hb5'.setCell (p := ⟨p, 0, none⟩) hpw (.int .u32 0)).setCell (p := ⟨p, 1, none⟩) hpw (.int .u32 0)).setCell (p := ⟨p, 2, none⟩) hpw (.int .u8 0)).setCell (p := ⟨p, 3, none⟩) hpw (.slice none 0 0)
      clear heq hnone P5 G5 HB5 hb5'
      go_wp2_with fail
      refine HE.out.mono ?_
      rintro r w6 ⟨rfl, hw6⟩
      have hw6' := hw6.symm
      subst hw6'
      clear HE
      go_wp2
      refine bodyPost_ret (results_bk_1 rfl _ rfl P6.out Try.underlying77 rfl infoPf) rfl ⟨_, by rw [HN.out.1]; rfl, by rw [HN.out.2]; exact FrV.zero _ _, hb6⟩

theorem pparse_any {w : World} {F : Nat → Prop} {v : Value} {l : List UInt8} (h : SlB w F v l) (hF : ∀ b, F b → b < w.heap.size) (hl : l.length ≤ 1000) :
    Calls Try.prog 48 #[v] w fun r w' => ∃ vf, r = .returned (.tuple #[vf, .int .i64 (parseE l)]) ∧ FrV w' (S.New w w') vf (parseF l) ∧ Below w.heap.size w w' := by
  by_cases h64 : l.length = 64
  · exact pparse_more h hF h64
  · refine (pparse_len h h64 hl).mono ?_
    rintro r w' ⟨rfl, hb⟩
    have hn := parse_none (R.parse_len h64)
    rw [hn.1, hn.2]
    exact ⟨_, rfl, FrV.zero _ _, hb⟩

theorem ppack_any {w : World} {F : Nat → Prop} {v : Value} {f : R.Fr} (h : FrV w F v f) (hF : ∀ b, F b → b < w.heap.size) (hn : f.Num) (hl : f.body.length ≤ 1000) :
    Calls Try.prog 40 #[v] w fun r w' => ∃ vb, r = .returned (.tuple #[vb, .int .i64 (packE f)]) ∧ SlB w' (S.New w w') vb (packB f) ∧ Below w.heap.size w w' := by
  unfold packE packB
  by_cases h50 : f.body.length ≤ 50
  · rw [if_pos h50, if_pos h50]
    exact pack_fits h hF hn h50
  · rw [if_neg h50, if_neg h50]
    refine (pack_long h (by omega) hl).mono ?_
    rintro r w' ⟨rfl, hb⟩
    exact ⟨_, rfl, S.Sg.nil _ _ _ _ _, hb⟩

end Go.Proofs.Ytbjbnjpdackloaa

namespace Go.Proofs.Ytbjbnjpdackloaa.Y
open Go.RowKit

variable {α : Type}

/-- the function gf (lb: what it has captured) hands over xs in turn, as values of which H holds then -/
def Feeds (n : Nat) (P : Program) (gf : Nat) (lb : Array Value) (H : World → Value → α → Prop) (n₀ : Nat) (xs : List α) (W : World) : Prop :=
  ∀ (l : Nat) (J : List α → World → Prop), (∀ pre A B, J pre A → Below A.heap.size A B → J pre B) →
    (∀ pre x v A, J pre A → H A v x → (∃ rest, xs = pre ++ x :: rest) → YieldAt Fence.wide (n - 1) P l #[v] A fun e B => e = .returned (.bool true) ∧ J (pre ++ [x]) B ∧ Below n₀ A B) →
    J [] W → CallsIn Fence.wide n P gf (#[.func (.yield l) #[] #[]] ++ lb) W fun e W' => (∃ v, e = .returned v) ∧ J xs W'

theorem grown_of_below {A B : World} (h : Below A.heap.size A B) : A.grownBy B none := ⟨h.os, h.tape, h.output, h.size, fun k hk _ => h.block k hk⟩

theorem below_put {n₀ : Nat} {A : World} {l : Nat} (h : n₀ ≤ l) (hs : n₀ ≤ A.heap.size) (o : Obj) : Below n₀ A (A.putObj l o) :=
  (Below.refl n₀ A).grown (grownBy_putObj' A l o) hs (fun k e => by cases e; exact h)

theorem loop {g : Operand} {ps : Array Tmp} {assign body : Code} {Q : Exit → Act → World → Prop} {a : Act} {w : World} {n : Nat} {P : Program} {gf : Nat} {lb : Array Value}
    (hg : a.eval g = .func (.func gf) #[] lb) (eg : ∀ args w, (callFunc gf args).run P w = .ok (.enter gf args) w) (hps : ps.size = 1)
    {H : World → Value → α → Prop} {n₀ : Nat} {xs : List α} (hseq : ∀ W, Below w.heap.size w W → Feeds (n - 1) P gf lb H n₀ xs W) (hn₀ : n₀ ≤ w.heap.size)
    (hH : ∀ (A : World) (v : Value) (x : α) (l : Nat) (o o' : Obj), H A v x → A.heap[l]? = some o → o.isCells = false → H (A.putObj l o') v x)
    (I : List α → World → Prop) (hI : OwnFrom w.heap.size I) (h0 : I [] w) (a₁ : Value → Act)
    (hassign : ∀ (l : Nat) (v : Value) (W : World) (K : Act → World → Prop), K (a₁ v) W →
      assign.wpIn (Fence.wide.inRound l) (n - 1 - 1) P (Exit.then K (fun _ _ _ => False)) { tmps := (ps.zip #[v]).foldl (fun t (p, v) => t.setIfInBounds p v) a.tmps, defers := [] } W)
    (hbody : ∀ (l : Nat) (pre : List α) (x : α) (v : Value) (W : World), I pre W → H W v x → (∃ rest, xs = pre ++ x :: rest) →
      body.wpIn (Fence.wide.inRound l) (n - 1 - 1) P (fun e _ W' => e = .normal ∧ KeepsOthers W W' ∧ Below n₀ W W' ∧ I (pre ++ [x]) W') (a₁ v) W)
    (hdone : ∀ (D : Nat) (W : World), w.heap.size ≤ D → I xs W → W.heap[D]? = some (.deferred (some [])) → Q .normal { a with defers := { target := .collected D, args := #[] } :: a.defers } W) :
    (Code.rangeFunc g ps assign body).wpIn Fence.wide n P Q a w := by
  refine wpIn_rangeFunc fun fn hfn => ?_
  have hro : Fence.wide.round = none := rfl
  rw [hro]
  obtain ⟨L, hL⟩ : ∃ L : LoopState → Loop, L = fun st => { state := st, pending := none, fn, tmps := a.tmps, params := ps, assign, body, defers := w.heap.size } := ⟨_, rfl⟩
  obtain ⟨m, hm⟩ : ∃ m, m = w.heap.size + 1 := ⟨_, rfl⟩
  obtain ⟨W1, hW1⟩ : ∃ W1, (w.alloc (.deferred (some []))).alloc (.loop (L .ready)) = W1 := ⟨_, rfl⟩
  have hl1 : W1.heap[m]? = some (.loop (L .ready)) := by
    have := World.alloc_heap_new (w.alloc (.deferred (some []))) (.loop (L .ready))
    rwa [hW1, World.size_alloc, ← hm] at this
  have hk1 : W1.heap[w.heap.size]? = some (.deferred (some [])) := by
    rw [← hW1]
    exact (Below.heap_alloc _ _ _ (by simp)).trans (World.alloc_heap_new w _)
  have hb1 : Below w.heap.size w W1 := by
    rw [← hW1]
    exact ((Below.refl _ w).alloc (Nat.le_refl _) _).alloc (by simp) _
  have hi1 : I [] W1 := by
    rw [← hW1]
    exact hI.alloc _ (hI.alloc _ h0)
  refine ⟨m, [{ target := .collected w.heap.size, args := #[] }], W1, { target := .fn (.func gf) lb, args := #[.func (.yield m) #[] #[]] }, W1, gf, #[.func (.yield m) #[] #[]] ++ lb, W1, ?_, ?_, fun _ _ => trivial, ?_, fun h => (by cases h), ?_⟩
  · rw [← hW1, hL, hm]
    exact run_enterLoop_outer _ _ _ _ _
  · simp only [resolve, hg]
    simp [go_sem]
  · simp [invoke, go_sem, eg]
  -- the three facts that go from round to round
  refine (hseq W1 hb1 m (fun pre W => I pre W ∧ W.heap[m]? = some (.loop (L .ready)) ∧ W.heap[w.heap.size]? = some (.deferred (some []))) ?_ ?_ ⟨hi1, hl1, hk1⟩).mono ?_
  · rintro pre A B ⟨hi, hl, hk⟩ hb
    exact ⟨hI _ _ _ none hi (grown_of_below hb) (fun r e => by cases e), (hb.block m (Array.getElem?_eq_some_iff.1 hl).1).trans hl, (hb.block _ (Array.getElem?_eq_some_iff.1 hk).1).trans hk⟩
  · rintro pre x v A ⟨hi, hl, hk⟩ hv hex
    have hml : m < A.heap.size := (Array.getElem?_eq_some_iff.1 hl).1
    have hy := run_yield (P := P) (args := #[v]) hl (by rw [hL]; exact hps.symm)
    have hbr := run_beginRound (P := P) hl (by rw [hL])
    obtain ⟨A2, hA2⟩ : ∃ A2, A.putObj m (.loop (L .busy)) = A2 := ⟨_, rfl⟩
    have e2 : ({ L .ready with state := .busy } : Loop) = L .busy := by rw [hL]
    rw [e2, hA2] at hbr
    have hl2 : A2.heap[m]? = some (.loop (L .busy)) := by rw [← hA2]; exact World.putObj_heap_same hml
    have hk2 : A2.heap[w.heap.size]? = some (.deferred (some [])) := by rw [← hA2]; exact (World.putObj_heap_other (by omega)).trans hk
    have hi2 : I pre A2 := by rw [← hA2]; exact hI.putObj _ hi (by omega) hl rfl
    have hv2 : H A2 v x := by rw [← hA2]; exact hH _ _ _ _ _ _ hv hl rfl
    have hb2 : Below n₀ A A2 := by rw [← hA2]; exact below_put (by omega) (by omega) _
    rw [hL] at hy
    refine ⟨fn, _, assign, body, hy, roundIn_of_wpIn hfn (hassign _ v A _ ⟨_, hbr, ?_⟩)⟩
    refine wpIn_mono (hbody _ pre x v A2 hi2 hv2 hex) ?_
    rintro e a3 W3 ⟨rfl, hk3, hb3, hi3⟩
    have hl3 := hk3.same _ _ hl2 rfl
    have hd3 := hk3.same _ _ hk2 rfl
    have hm3 : m < W3.heap.size := (Array.getElem?_eq_some_iff.1 hl3).1
    have her := run_endRound (P := P) none hl3
    refine ⟨_, _, her, rfl, ⟨hI.putObj _ hi3 (by omega) hl3 rfl, ?_, (World.putObj_heap_other (by omega)).trans hd3⟩, (hb2.trans hb3).trans (below_put (by omega) (by omega) _)⟩
    rw [World.putObj_heap_same hm3, hL]
    rfl
  · rintro e W2 ⟨⟨v, rfl⟩, hi, hl, hk⟩
    have hel := run_endLoop (P := P) hl (by rw [hL]; simp)
    have hp : (L .ready).pending = none := by rw [hL]
    rw [hp] at hel
    refine ⟨none, _, hel, ?_⟩
    exact hdone w.heap.size _ (Nat.le_refl _) (hI.putObj _ hi (by omega) hl rfl) ((World.putObj_heap_other (by omega)).trans hk)

end Go.Proofs.Ytbjbnjpdackloaa.Y

namespace Go.Proofs.Ytbjbnjpdackloaa
open Go.RowKit Go.Shelf

attribute [local go_sem] Oper.semAt_some

/-- a record's bodies -/
def chunk (l : List UInt8) (i : Nat) : List UInt8 := (l.drop (50 * i)).take 50
def chunks (l : List UInt8) (k : Nat) : List (List UInt8) := (List.range k).map (chunk l)
theorem chunks_succ (l : List UInt8) (k : Nat) : chunks l (k + 1) = chunks l k ++ [chunk l k] := by simp [chunks, List.range_succ]
theorem chunks_len (l : List UInt8) (k : Nat) : (chunks l k).length = k := by simp [chunks]
theorem chunks_part (l : List UInt8) (k m : Nat) (h : k < m) : ∃ rest, chunks l m = chunks l k ++ chunk l k :: rest := by
  refine ⟨((List.range m).drop (k + 1)).map (chunk l), ?_⟩
  have hk : k < (List.range m).length := by simpa using h
  have e : List.range m = List.range k ++ k :: (List.range m).drop (k + 1) := by
    have h1 := (List.take_append_drop k (List.range m)).symm
    rw [List.drop_eq_getElem_cons hk] at h1
    rw [List.take_range, Nat.min_eq_left (by omega)] at h1
    simpa using h1
  unfold chunks
  conv => lhs; rw [e]
  simp

theorem sl_take {w : World} {F : Nat → Prop} {A : Option Addr} {l : List UInt8} {cap : Nat} (h : SlB w F (.slice A l.length cap) l) (m : Nat) (hm : m ≤ l.length) : SlB w F (.slice A m cap) (l.take m) := by
  obtain ⟨_, A', cap', e, hc, hx⟩ := h
  cases e
  refine ⟨by simp [bytesV_length], A, cap, by rw [List.length_take, Nat.min_eq_left hm], by rw [List.length_take]; omega, fun hn => ?_⟩
  rw [List.length_take] at hn
  obtain ⟨a, rfl, hb, hx⟩ := hx (by omega)
  refine ⟨a, rfl, hb, fun j u hj => hx j u ?_⟩
  have hjl := (List.getElem?_eq_some_iff.1 hj).1
  rw [bytesV_length, List.length_take] at hjl
  rw [← hj, bytesV, bytesV, List.map_take, List.getElem?_take, if_pos (by omega)]

theorem sl_drop {w : World} {F : Nat → Prop} {a : Addr} {l : List UInt8} {cap : Nat} (h : SlB w F (.slice (some a) l.length cap) l) (m : Nat) (hm : m ≤ l.length) : SlB w F (.slice (some (a.add m)) (l.length - m) (cap - m)) (l.drop m) := by
  obtain ⟨_, A', cap', e, hc, hx⟩ := h
  cases e
  refine ⟨by simp [bytesV_length], _, _, by rw [List.length_drop], by rw [List.length_drop]; omega, fun hn => ?_⟩
  rw [List.length_drop] at hn
  obtain ⟨a', e, hb, hx⟩ := hx (by omega)
  cases e
  refine ⟨_, rfl, by rw [S.add_block]; exact hb, fun j u hj => ?_⟩
  rw [S.add_add]
  refine hx (m + j) u ?_
  rw [← hj, bytesV, bytesV, List.map_drop, List.getElem?_drop]

/-- what is handed over: bytes in memory of their own -/
def Own (n₀ : Nat) (W : World) (v : Value) (x : List UInt8) : Prop := W.ownsRow n₀ 5 1 v x.length (bytesV x)

theorem own_lower {w : World} {b b' k n : Nat} {e : TypeId} {v : Value} {xs : List Value} (h : w.ownsRow b e k v n xs) (hb : b' ≤ b) : w.ownsRow b' e k v n xs := by
  refine ⟨h.1, ?_⟩
  rcases h.2 with hn | ⟨g, cap, cur, hv, hbs, rest⟩
  · exact .inl hn
  · exact .inr ⟨g, cap, cur, hv, Nat.le_trans hb hbs, rest⟩

set_option maxRecDepth 100000 in
set_option maxHeartbeats 1000000 in
theorem bodies1 (m : Nat) (hm : 1 ≤ m) (l : Nat) (Bn n₀ : Nat) (v : Value) (rec : List UInt8) (F : Nat → Prop) (hF : ∀ b, F b → b < n₀) (hlen : rec.length ≤ 140737488355328) (J : List (List UInt8) → World → Prop)
    (hJ : ∀ pre A B, J pre A → Below A.heap.size A B → J pre B)
    (hY : ∀ pre x u A, J pre A → Own n₀ A u x → (∃ rest, chunks rec (R.many rec.length) = pre ++ x :: rest) → YieldAt Fence.wide (m - 1) Try.prog l #[u] A fun e B => e = .returned (.bool true) ∧ J (pre ++ [x]) B ∧ Below n₀ A B)
    (W : World) (hn₀ : n₀ ≤ W.heap.size) (hBn : W.cell? ⟨Bn, 0, none⟩ = some v) (hv : SlB W F v rec) (h0 : J [] W) :
    CallsIn Fence.wide m Try.prog 59 #[.func (.yield l) #[] #[], .pointer (some ⟨Bn, 0, none⟩)] W fun e W' => (∃ v, e = .returned v) ∧ J (chunks rec (R.many rec.length)) W' := by
  obtain ⟨A0, cap0, rfl, hc0⟩ : ∃ A cap, v = .slice A rec.length cap ∧ rec.length ≤ cap := by obtain ⟨_, A, cap, e, hc, _⟩ := hv; exact ⟨A, cap, e, hc⟩
  have HV := Lib.hid hv
  have HY := Lib.hid hY
  have HJ := Lib.hid hJ
  have H0 := Lib.hid h0
  clear hv hY hJ h0
  refine callsIn_of_wp Try.func59 rfl trivial ?_ rfl
  simp only [Try.ntmps59, List.size_toArray, List.length_cons, List.length_nil, Nat.reduceAdd, Nat.reduceSub, Array.replicate_succ, Array.replicate_zero, List.push_toArray, List.append_toArray, List.nil_append, List.cons_append]
  gi_wp2
  gi_loopw [3] (fun p wr => ∃ (k : Nat) (A : Option Addr) (cap : Nat), p = .slice A (rec.length - 50 * k) cap ∧ rec.length - 50 * k ≤ cap ∧ 50 * k ≤ rec.length ∧ (k ≠ 0 → 50 * k < rec.length) ∧ SlB wr F p (rec.drop (50 * k)) ∧ J (chunks rec k) wr ∧ n₀ ≤ wr.heap.size) (fun p _ => match p with | .slice _ n _ => n | _ => 0)
  case atStart =>
    exact ⟨0, A0, cap0, rfl, hc0, by omega, fun h => absurd rfl h, HV.out, H0.out, hn₀⟩
  case round =>
    obtain ⟨k, A, cap, rfl, hc, hk, hk0, hT, hJk, hsz⟩ := hrel
    obtain ⟨N, hN⟩ : ∃ N, N = rec.length - 50 * k := ⟨_, rfl⟩
    rw [← hN] at hc hT
    rw [← hN]
    have hlT : (rec.drop (50 * k)).length = N := by rw [List.length_drop, hN]
    have HN := Lib.hid hN
    have HJK := Lib.hid hJk
    have HL := Lib.hid hlT
    clear hN hJk
    by_cases hlt : 50 < N
    · have hlt' : (50 : Int) < (N : Int) := by omega
      have h50 : (50 : Int) ≤ (N : Int) := by omega
      have h51 : (50 : Int) ≤ (cap : Int) := by omega
      obtain ⟨a, rfl⟩ : ∃ a, A = some a := by
        obtain ⟨_, A', cap', e, _, hx⟩ := hT
        cases e
        obtain ⟨a, e, _⟩ := hx (by omega)
        exact ⟨a, e⟩
      rw [show Value.slice (some a) N cap = .slice (some a) (rec.drop (50 * k)).length cap by rw [hlT]] at hT
      have HC := Lib.hid (clone_bytes (sl_take hT 50 (by omega)) (fun b hb => Nat.lt_of_lt_of_le (hF b hb) hsz) (by rw [List.length_take]; omega))
      have hD := sl_drop hT 50 (by omega)
      rw [hlT, List.drop_drop, show 50 * k + 50 = 50 * (k + 1) by omega] at hD
      have HD := Lib.hid hD
      have hmany : k < R.many rec.length := by
        have := HN.out
        unfold R.many
        split <;> omega
      clear hT hD hlT
      gi_wp2_with (refine ⟨trivial, ?_⟩; gi_at_call 60; refine (callsIn_wide.2 HC.out).mono ?_; rintro e w1 ⟨v', rfl, hown, hb1⟩; obtain ⟨fn, tmps, assign, body, hy, hR⟩ := HY.out (chunks rec k) (chunk rec k) v' w1 (HJ.out _ _ _ HJK.out hb1) (own_lower hown hsz) (chunks_part rec k _ hmany))
      refine hR.mono ?_
      rintro e W3 ⟨rfl, hJ3, hb3⟩
      have HJ3 := Lib.hid hJ3
      have HD3 := Lib.hid ((HD.out.below (hb1.mono hsz) hF).below hb3 hF)
      have hs3 := Nat.le_trans (Nat.le_trans hsz hb1.size) hb3.size
      clear hy hR hown HC HD hJ3 hb3 hb1
      gi_wp2
      go_roundw
      case rel =>
        have hn := HN.out
        have e1 : rec.length - 50 * (k + 1) = N - 50 := by omega
        have e2 : chunks rec (k + 1) = chunks rec k ++ [chunk rec k] := chunks_succ _ _
        exact ⟨k + 1, _, _, by rw [e1], by omega, by omega, fun _ => by omega, HD3.out, by rw [e2]; exact HJ3.out, hs3⟩
      case measure => simp; omega
    · have hlt' : ¬ (50 : Int) < (N : Int) := by omega
      have hmany : k + 1 = R.many rec.length := by
        have := HN.out
        unfold R.many
        split <;> omega
      have HC := Lib.hid (clone_bytes hT (fun b hb => Nat.lt_of_lt_of_le (hF b hb) hsz) (by omega))
      have hch : chunk rec k = rec.drop (50 * k) := by rw [chunk, List.take_of_length_le (by omega)]
      have HCH := Lib.hid hch
      have HM := Lib.hid hmany
      clear hT hlT hch hmany
      gi_wp2_with (refine ⟨trivial, ?_⟩; gi_at_call 60; refine (callsIn_wide.2 HC.out).mono ?_; rintro e w1 ⟨v', rfl, hown, hb1⟩; obtain ⟨fn, tmps, assign, body, hy, hR⟩ := HY.out (chunks rec k) (chunk rec k) v' w1 (HJ.out _ _ _ HJK.out hb1) (by rw [HCH.out]; exact own_lower hown hsz) (chunks_part rec k _ (by have := HM.out; omega)))
      refine hR.mono ?_
      rintro e W3 ⟨rfl, hJ3, hb3⟩
      have HJ3 := Lib.hid hJ3
      clear hy hR hown HC hJ3 hb3 hb1
      gi_wp2
      go_end0
      refine ⟨⟨_, rfl⟩, ?_⟩
      rw [← HM.out, chunks_succ]
      exact HJ3.out

theorem bodies_in (w : World) (v : Value) (hv : ∃ A n cap, v = .slice A n cap) :
    Calls Try.prog 51 #[v] w fun e w' => e = .returned (.func (.func 59) #[] #[.pointer (some ⟨w.heap.size, 0, none⟩)]) ∧ w' = w.alloc (.cells #[v] 37) := by
  obtain ⟨A, n, cap, rfl⟩ := hv
  go_enter Try.func51, Try.ntmps51
  go_wp2
  go_ret
  exact ⟨rfl, rfl⟩

theorem bodies_feeds (m : Nat) (hm : 1 ≤ m) (Bn n₀ : Nat) (v : Value) (rec : List UInt8) (F : Nat → Prop) (hF : ∀ b, F b → b < n₀) (hlen : rec.length ≤ 140737488355328) (W : World) (hn₀ : n₀ ≤ W.heap.size) (hBn : W.cell? ⟨Bn, 0, none⟩ = some v) (hv : SlB W F v rec) :
    Y.Feeds m Try.prog 59 #[.pointer (some ⟨Bn, 0, none⟩)] (Own n₀) n₀ (chunks rec (R.many rec.length)) W := fun l J hJ hY h0 =>
  bodies1 m hm l Bn n₀ v rec F hF hlen J hJ hY W hn₀ hBn hv h0

end Go.Proofs.Ytbjbnjpdackloaa

namespace Go.Proofs.Ytbjbnjpdackloaa
open Go.RowKit Go.Shelf

attribute [local go_sem] Oper.semAt_some

/-- a frame in a row: its number, its flag, its body's value -/
structure Pf where
  seq : Nat
  flag : UInt8
  vb : Value

def pfCQ (e : Nat) (f : Pf) : List Value := [.int .u32 (e : Int), .int .u32 (f.seq : Int), .int .u8 (f.flag.toNat : Int), f.vb]
/-- the frames before any flag is laid -/
def pfs (s : Nat) (vs : List Value) : List Pf := vs.zipIdx.map fun x => ⟨(s + x.2) % 4294967296, 0, x.1⟩

theorem pfs_len (s : Nat) (vs : List Value) : (pfs s vs).length = vs.length := by simp [pfs]
theorem pfs_snoc (s : Nat) (vs : List Value) (u : Value) : pfs s (vs ++ [u]) = pfs s vs ++ [⟨(s + vs.length) % 4294967296, 0, u⟩] := by simp [pfs, List.zipIdx_append]
theorem pfs_at (s : Nat) (vs : List Value) (i : Nat) (h : i < (pfs s vs).length) : (pfs s vs)[i] = ⟨(s + i) % 4294967296, 0, vs[i]'(by rw [pfs_len] at h; exact h)⟩ := by simp [pfs]

theorem rows_apart {W : World} {b b' k k' n n' : Nat} {e e' : TypeId} {u v : Value} {xs ys : List Value} (h : W.ownsRow b e k u n xs) (h' : W.ownsRow b' e' k' v n' ys) (hne : e ≠ e') : u.ownBlock = none ∨ u.ownBlock ≠ v.ownBlock := by
  rcases h.2 with ⟨rfl, _⟩ | ⟨g, cap, cur, rfl, _, hg, _⟩
  · exact .inl rfl
  · refine .inr fun ex => ?_
    rcases h'.2 with ⟨rfl, _⟩ | ⟨g', cap', cur', rfl, _, hg', _⟩
    · cases ex
    · have e1 : g = g' := by simpa [Value.ownBlock] using ex
      subst e1
      rw [hg] at hg'
      simp at hg'
      exact hne hg'.2

theorem row_kept {W W' : World} {row : Option Nat} {b k n : Nat} {e : TypeId} {v : Value} {xs : List Value} (h : W.ownsRow b e k v n xs) (hg : W.grownBy W' row) (hr : ∀ r, row = some r → ∃ o : Obj, W.heap[r]? = some o ∧ o.isCells = false) : W'.ownsRow b e k v n xs := by
  refine h.kept hg ?_
  rcases h.2 with ⟨rfl, _⟩ | ⟨g, cap, cur, rfl, _, hgb, _⟩
  · exact .inl rfl
  · refine .inr fun ex => ?_
    obtain ⟨o, ho, hc⟩ := hr g (by simpa [Value.ownBlock] using ex.symm)
    rw [hgb] at ho
    cases ho
    cases hc

theorem box_kept {W W' : World} {row : Option Nat} {B : Nat} {t : TypeId} {v : Value} (h : Boxed W B t v) (hg : W.grownBy W' row) (hr : ∀ r, row = some r → ∃ o : Obj, W.heap[r]? = some o ∧ o.isCells = false) : Boxed W' B t v := by
  refine h.kept hg fun ex => ?_
  obtain ⟨o, ho, hc⟩ := hr B ex.symm
  rw [show W.heap[B]? = _ from h] at ho
  cases ho
  cases hc

/-- what holds between two rounds: the bodies pre have come -/
structure Inv (w W : World) (e s : Nat) (pre : List (List UInt8)) (v : Value) (vs : List Value) : Prop where
  be : Boxed W w.heap.size 36 (.int .u32 (e : Int))
  bs : Boxed W (w.heap.size + 1) 36 (.int .u32 (s : Int))
  bf : Boxed W (w.heap.size + 1 + 1) 87 v
  row : W.ownsRow w.heap.size 77 4 v pre.length ((pfs s vs).flatMap (pfCQ e))
  len : vs.length = pre.length
  own : ∀ (i : Nat) (u : Value) (x : List UInt8), vs[i]? = some u → pre[i]? = some x → Own w.heap.size W u x
  low : Below w.heap.size w W

def InvE (w : World) (e s : Nat) (pre : List (List UInt8)) (W : World) : Prop := ∃ v vs, Inv w W e s pre v vs

theorem Inv.kept {w W W' : World} {e s : Nat} {pre : List (List UInt8)} {v : Value} {vs : List Value} {row : Option Nat} (h : Inv w W e s pre v vs) (hg : W.grownBy W' row) (hr : ∀ r, row = some r → w.heap.size ≤ r ∧ ∃ o : Obj, W.heap[r]? = some o ∧ o.isCells = false) : Inv w W' e s pre v vs where
  be := box_kept h.be hg fun r e => (hr r e).2
  bs := box_kept h.bs hg fun r e => (hr r e).2
  bf := box_kept h.bf hg fun r e => (hr r e).2
  row := row_kept h.row hg fun r e => (hr r e).2
  len := h.len
  own := fun i u x hu hx => row_kept (h.own i u x hu hx) hg fun r e => (hr r e).2
  low := h.low.grown hg h.low.size fun k e => (hr k e).1

theorem invE_own (w : World) (e s : Nat) (B : Nat) (hB : w.heap.size ≤ B) : OwnFrom B (InvE w e s) := by
  rintro pre W W' row ⟨v, vs, h⟩ hg hr
  exact ⟨v, vs, h.kept hg fun r e => ⟨Nat.le_trans hB (hr r e).1, (hr r e).2⟩⟩

/-- one frame more -/
theorem Inv.more {w W w1 : World} {e s : Nat} {pre : List (List UInt8)} {v v' : Value} {vs : List Value} {u : Value} {x : List UInt8} {tmp : Obj} (h : Inv w W e s pre v vs) (hu : Own w.heap.size W u x)
    (hown : w1.ownsRow w.heap.size 77 4 v' (pre.length + 1) ((pfs s vs).flatMap (pfCQ e) ++ pfCQ e ⟨(s + pre.length) % 4294967296, 0, u⟩)) (hg : (W.alloc tmp).grownBy w1 v.ownBlock) :
    Boxed w1 (w.heap.size + 1 + 1) 87 v ∧ Inv w (w1.setCell ⟨w.heap.size + 1 + 1, 0, none⟩ v') e s (pre ++ [x]) v' (vs ++ [u]) ∧ KeepsOthers W (w1.setCell ⟨w.heap.size + 1 + 1, 0, none⟩ v') ∧ Below w.heap.size W (w1.setCell ⟨w.heap.size + 1 + 1, 0, none⟩ v') := by
  obtain ⟨hv1, hv2, hr2, hk2, hb2⟩ := h.bf.appended (by decide) h.row h.low.size (by omega) hown hg
  have hset := grownBy_setCell' w1 (w.heap.size + 1 + 1) v'
  have kx : ∀ (u : Value) (x : List UInt8), Own w.heap.size W u x → Own w.heap.size (w1.setCell ⟨w.heap.size + 1 + 1, 0, none⟩ v') u x := fun u x ho => by
    have o1 : w1.ownsRow w.heap.size 5 1 u x.length (bytesV x) := World.ownsRow.kept (World.ownsRow.alloc ho tmp) hg (rows_apart ho h.row (by decide))
    exact o1.kept hset (.inr (fun ex => (hv1.not_row (by decide) o1) ex.symm))
  refine ⟨hv1, ?_, hk2, hb2⟩
  exact {
    be := ((h.be.alloc tmp).kept hg (h.be.not_row (by decide) h.row)).kept hset (fun ex => by have := Option.some.inj ex; omega)
    bs := ((h.bs.alloc tmp).kept hg (h.bs.not_row (by decide) h.row)).kept hset (fun ex => by have := Option.some.inj ex; omega)
    bf := hv2
    row := by rw [pfs_snoc, List.flatMap_append, List.length_append, h.len]; simpa using hr2
    len := by simp [h.len]
    own := fun i u' x' h1 h2 => by
      by_cases hi : i < pre.length
      · rw [List.getElem?_append_left (by rw [h.len]; exact hi)] at h1
        rw [List.getElem?_append_left hi] at h2
        exact kx _ _ (h.own i u' x' h1 h2)
      · have hi2 : i = pre.length := by
          have := (List.getElem?_eq_some_iff.1 h2).1
          simp at this
          omega
        subst hi2
        rw [List.getElem?_append_right (by rw [h.len]; omega), h.len] at h1
        rw [List.getElem?_append_right (by omega)] at h2
        simp at h1 h2
        subst h1 h2
        exact kx _ _ hu
    low := h.low.trans hb2 }

theorem infoPf4 : (Try.prog.info? 77).map (fun i => (i.zero, i.size, i.bytes)) = some (some (.agg #[.int .u32 0, .int .u32 0, .int .u8 0, .slice none 0 0]), 4, 40) := by kernel_rfl

theorem row_cells (w : World) (e : TypeId) (X : Array Value) : ∀ (j : Nat) (x : Value), X.toList[j]? = some x → (w.alloc (.cells X e)).cell? ((⟨w.heap.size, 0, none⟩ : Addr).add j) = some x := fun j x hj => by
  rw [Addr.add_mid]
  rw [cell_of_row _ _ _ X e (0, 0) (heap_alloc_new w _), Nat.zero_add]
  simpa using hj

theorem grown_set (w : World) (g o : Nat) (v : Value) : w.grownBy (w.setCell ⟨g, o, none⟩ v) (some g) :=
  ⟨rfl, rfl, rfl, by simp [World.setCell], fun k _ hk => Below.heap_setCell w ⟨g, o, none⟩ v k (fun e => hk (by rw [e]))⟩

theorem own_put {w : World} {base k n g cap : Nat} {e : TypeId} {xs : List Value} (h : w.ownsRow base e k (.slice (some ⟨g, 0, none⟩) n cap) n xs) (o : Nat) (c : Value) (ho : o < n * k) (h1 : c.oneCell' = true) :
    (w.setCell ⟨g, o, none⟩ c).ownsRow base e k (.slice (some ⟨g, 0, none⟩) n cap) n (xs.set o c) := by
  have := (V.own_stored Try.prog h o [c] (by simp; omega) (by simp [h1])).1
  have e : splice xs o [c] = xs.set o c := by rw [splice, List.set_eq_take_append_cons_drop, if_pos (by rw [h.1]; exact ho)]; rfl
  rw [e] at this
  exact this

theorem or_0_1 : bits .or .u8 0 1 = 1 := by kernel_rfl
theorem or_1_2 : bits .or .u8 1 2 = 3 := by kernel_rfl
theorem or_0_2 : bits .or .u8 0 2 = 2 := by kernel_rfl
attribute [local go_sem] or_0_1 or_1_2 or_0_2
theorem many_few {n : Nat} (h : n ≤ 140737488355328) : R.many n ≤ 2814749767107 := by unfold R.many; split <;> omega

theorem pfC_len (e : Nat) (f : Pf) : (pfCQ e f).length = 4 := rfl

/-- the flags laid, the frames are what the document says -/
theorem cut_done {w W : World} {e s D g cap K : Nat} {l : List UInt8} {vs : List Value} (fl : UInt8) (hi : Inv w W e s (chunks l (K + 1)) (.slice (some ⟨g, 0, none⟩) (K + 1) cap) vs) (hm : K + 1 = R.many l.length) (hfl : fl = if K = 0 then 3 else 2)
    (hD : W.heap[D]? = some (.deferred (some []))) (hDw : w.heap.size ≤ D) :
    ((W.setCell ⟨g, 2, none⟩ (.int .u8 1)).setCell ⟨g, K * 4 + 2, none⟩ (.int .u8 (fl.toNat : Int))).heap[D]? = some (.deferred (some [])) ∧
    Frs (((W.setCell ⟨g, 2, none⟩ (.int .u8 1)).setCell ⟨g, K * 4 + 2, none⟩ (.int .u8 (fl.toNat : Int))).putObj D (.deferred none)) (S.New w (((W.setCell ⟨g, 2, none⟩ (.int .u8 1)).setCell ⟨g, K * 4 + 2, none⟩ (.int .u8 (fl.toNat : Int))).putObj D (.deferred none))) (.slice (some ⟨g, 0, none⟩) (K + 1) cap) (R.cut e s l) ∧
    Below w.heap.size w (((W.setCell ⟨g, 2, none⟩ (.int .u8 1)).setCell ⟨g, K * 4 + 2, none⟩ (.int .u8 (fl.toNat : Int))).putObj D (.deferred none)) := by
  have hlen : (chunks l (K + 1)).length = K + 1 := chunks_len _ _
  have hrow := hi.row
  rw [hlen] at hrow
  have hvl : vs.length = K + 1 := by rw [hi.len, hlen]
  have hgw := (World.ownsRow.lt hrow g rfl)
  have r1 := own_put hrow 2 (.int .u8 1) (by omega) rfl
  have r2 := own_put r1 (K * 4 + 2) (.int .u8 (fl.toNat : Int)) (by omega) rfl
  have g1 := grown_set W g 2 (.int .u8 1)
  have g2 := grown_set (W.setCell ⟨g, 2, none⟩ (.int .u8 1)) g (K * 4 + 2) (.int .u8 (fl.toNat : Int))
  have hD2 := (KeepsOthers.setCell (W.setCell ⟨g, 2, none⟩ (.int .u8 1)) ⟨g, K * 4 + 2, none⟩ (.int .u8 (fl.toNat : Int))).same D _ ((KeepsOthers.setCell W ⟨g, 2, none⟩ (.int .u8 1)).same D _ hD rfl) rfl
  have hb2 : Below w.heap.size w ((W.setCell ⟨g, 2, none⟩ (.int .u8 1)).setCell ⟨g, K * 4 + 2, none⟩ (.int .u8 (fl.toNat : Int))) := (hi.low.setCell (p := ⟨g, 2, none⟩) hgw.1 _).setCell (p := ⟨g, K * 4 + 2, none⟩) hgw.1 _
  have kx : ∀ (u : Value) (x : List UInt8), Own w.heap.size W u x → Own w.heap.size (((W.setCell ⟨g, 2, none⟩ (.int .u8 1)).setCell ⟨g, K * 4 + 2, none⟩ (.int .u8 (fl.toNat : Int))).putObj D (.deferred none)) u x := fun u x ho => by
    have a0 := rows_apart ho hrow (by decide)
    have o1 := World.ownsRow.kept ho g1 a0
    have o2 := o1.kept g2 a0
    exact ownsRow_putObj o2 _ hD2 rfl
  generalize (W.setCell ⟨g, 2, none⟩ (.int .u8 1)).setCell ⟨g, K * 4 + 2, none⟩ (.int .u8 (fl.toNat : Int)) = W2 at r2 hD2 hb2 kx ⊢
  refine ⟨hD2, ?_, hb2.trans (Y.below_put hDw hb2.size _)⟩
  have r3 := ownsRow_putObj r2 (.deferred none) hD2 rfl
  have hg3 := World.ownsRow.lt r3 g rfl
  have hcl : (R.cut e s l).length = K + 1 := by rw [R.cut_len, hm]
  refine ⟨some ⟨g, 0, none⟩, cap, by rw [hcl], by rw [hcl]; obtain ⟨_, A, c, ex, hc, _⟩ := S.Sg.of_own hrow; cases ex; exact hc, fun _ => ⟨_, rfl, ⟨hg3.1, hg3.2⟩, fun i h => ?_⟩⟩
  have hik : i < K + 1 := by rw [← hcl]; exact h
  have hpl : i < (pfs s vs).length := by rw [pfs_len, hvl]; exact hik
  have hfx : ∀ j, j < 4 → ((pfs s vs).flatMap (pfCQ e))[i * 4 + j]? = (pfCQ e (pfs s vs)[i])[j]? := fun j hj => V.flat_at (pfs s vs) (fun x _ => pfC_len e x) i hpl j hj
  have hxl : ((pfs s vs).flatMap (pfCQ e)).length = (K + 1) * 4 := hrow.1
  have hci : (chunks l (K + 1))[i]? = some (chunk l i) := by simp [chunks, List.getElem?_map, List.getElem?_range hik]
  have hat : ∀ j u, j < 4 → j ≠ 2 → (pfCQ e (pfs s vs)[i])[j]? = some u → (W2.putObj D (.deferred none)).cell? ((⟨g, 0, none⟩ : Addr).add (i * 4 + j)) = some u := fun j u hj hj2 hu => by
    rw [Addr.add_mid, Nat.zero_add]
    refine V.own_cell r3 ?_
    rw [List.getElem?_set_ne (by omega), List.getElem?_set_ne (by omega), hfx j hj]
    exact hu
  have hfr : (R.cut e s l)[i] = R.frameOf e s l i := R.cut_at e s l i h
  rw [hfr]
  refine ⟨vs[i]'(by omega), ?_, ?_, ?_, ?_, ?_⟩
  · exact hat 0 _ (by decide) (by decide) rfl
  · refine (hat 1 _ (by decide) (by decide) rfl).trans ?_
    rw [pfs_at]
    rfl
  · rw [Addr.add_mid, Nat.zero_add]
    refine V.own_cell r3 ?_
    simp only [R.frameOf, R.flagOf, ← hm]
    by_cases hl : i = K
    · subst hl
      rw [List.getElem?_set_self (by rw [List.length_set, hxl]; omega)]
      by_cases h0 : i = 0
      · rw [hfl, if_pos h0, if_pos h0, if_pos rfl]; rfl
      · rw [hfl, if_neg h0, if_neg h0, if_pos rfl]; rfl
    · rw [List.getElem?_set_ne (by omega)]
      by_cases h0 : i = 0
      · subst h0
        rw [List.getElem?_set_self (by rw [hxl]; omega), if_pos rfl, if_neg (by omega)]
        rfl
      · rw [List.getElem?_set_ne (by omega), hfx 2 (by decide), if_neg h0, if_neg (by omega), pfs_at]
        rfl
  · refine (hat 3 _ (by decide) (by decide) rfl).trans ?_
    rw [pfs_at]
  · have ho := kx _ _ (hi.own i (vs[i]'(by omega)) (chunk l i) (List.getElem?_eq_getElem (by omega)) hci)
    exact (S.Sg.of_own ho).wider (fun b hb => hb)

set_option maxRecDepth 100000 in
set_option maxHeartbeats 1000000 in
theorem cut_in {w : World} {F : Nat → Prop} {v : Value} {l : List UInt8} (e s : Nat) (h : SlB w F v l) (hF : ∀ b, F b → b < w.heap.size) (_he : e < 4294967296) (_hs : s < 4294967296) (hl : l.length ≤ 140737488355328) :
    CallsIn Fence.wide 3 Try.prog 38 #[.int .u32 e, .int .u32 s, v] w fun r w' => ∃ v', r = .returned v' ∧ Frs w' (S.New w w') v' (R.cut e s l) ∧ Below w.heap.size w w' := by
  obtain ⟨A0, cap0, rfl, hc0⟩ : ∃ A cap, v = .slice A l.length cap ∧ l.length ≤ cap := by obtain ⟨_, A, cap, e, hc, _⟩ := h; exact ⟨A, cap, e, hc⟩
  obtain ⟨i0, hi, hz0, hz1, hz2⟩ := info_parts infoPf4
  have HH := Lib.hid h
  clear h
  refine callsIn_of_wp_marks Try.func38 rfl trivial ?_ rfl
  simp only [Try.ntmps38, List.size_toArray, List.length_cons, List.length_nil, Nat.reduceAdd, Nat.reduceSub, Array.replicate_succ, Array.replicate_zero, List.push_toArray, List.append_toArray, List.nil_append, List.cons_append]
  gi_wp2_with (refine ⟨trivial, ?_⟩; gi_at_call 51; refine (callsIn_wide.2 (bodies_in _ _ ⟨_, _, _, rfl⟩)).mono ?_; rintro r w' ⟨rfl, rfl⟩)
  obtain ⟨W0, hW0⟩ : ∃ W0, (((w.alloc (.cells #[.int .u32 (e : Int)] 36)).alloc (.cells #[.int .u32 (s : Int)] 36)).alloc (.cells #[.slice none 0 0] 87)).alloc (.cells #[.slice A0 l.length cap0] 37) = W0 := ⟨_, rfl⟩
  have hsz0 : W0.heap.size = w.heap.size + 4 := by rw [← hW0]; simp
  have hlow : Below w.heap.size w W0 := by
    rw [← hW0]
    exact ((((Below.refl _ w).alloc (Nat.le_refl _) _).alloc (by simp) _).alloc (by simp; omega) _).alloc (by simp; omega) _
  have hbox : Boxed W0 (w.heap.size + 1 + 1 + 1) 37 (.slice A0 l.length cap0) := by
    rw [← hW0]
    have := Boxed.new (((w.alloc (.cells #[.int .u32 (e : Int)] 36)).alloc (.cells #[.int .u32 (s : Int)] 36)).alloc (.cells #[.slice none 0 0] 87)) 37 (.slice A0 l.length cap0)
    simpa using this
  have hinv : InvE w e s [] W0 := by
    rw [← hW0]
    refine ⟨.slice none 0 0, [], ?_⟩
    have b1 := Boxed.new w 36 (.int .u32 (e : Int))
    have b2 := Boxed.new (w.alloc (.cells #[.int .u32 (e : Int)] 36)) 36 (.int .u32 (s : Int))
    have b3 := Boxed.new ((w.alloc (.cells #[.int .u32 (e : Int)] 36)).alloc (.cells #[.int .u32 (s : Int)] 36)) 87 (.slice none 0 0)
    simp only [World.size_alloc] at b2 b3
    exact { be := ((b1.alloc _).alloc _).alloc _, bs := (b2.alloc _).alloc _, bf := b3.alloc _, row := S.own_nil _ _ _ _, len := rfl, own := fun i u x h _ => by simp at h, low := by rw [hW0]; exact hlow }
  rw [hW0]
  have HINV := Lib.hid hinv
  have HBOX := Lib.hid hbox
  clear hW0 hinv hbox
  refine Y.loop (n := 3) (gf := 59) (lb := #[.pointer (some ⟨w.heap.size + 1 + 1 + 1, 0, none⟩)]) rfl (enters_of Try.func59 (by kernel_rfl) rfl) rfl (H := Own w.heap.size) (n₀ := w.heap.size) (xs := chunks l (R.many l.length))
    (fun W hW => bodies_feeds 2 (by decide) _ w.heap.size _ l F hF hl W (by have := hW.size; omega) ((hW.cell (p := ⟨w.heap.size + 1 + 1 + 1, 0, none⟩) (show w.heap.size + 1 + 1 + 1 < W0.heap.size by omega)).trans HBOX.out.cell) (HH.out.below (hlow.trans (hW.mono (by omega))) hF)) (by omega)
    (fun A v x l o o' hO hl ho => ownsRow_putObj hO o' hl ho) (InvE w e s) (invE_own w e s _ (by omega)) HINV.out
    (fun v => { tmps := #[.int .u32 (e : Int), .int .u32 (s : Int), .slice A0 l.length cap0, .pointer (some ⟨w.heap.size, 0, none⟩), .pointer (some ⟨w.heap.size + 1, 0, none⟩), undef, .slice none 0 0, .pointer (some ⟨w.heap.size + 1 + 1, 0, none⟩), v, .slice A0 l.length cap0, .func (.func 59) #[] #[.pointer (some ⟨w.heap.size + 1 + 1 + 1, 0, none⟩)], v, undef, undef, undef, undef, undef, undef, undef, undef, undef, undef, undef, undef, undef, undef, undef, undef, undef, undef, undef, undef, undef, undef, undef, undef, undef, undef, undef, undef, undef], defers := [] }) ?assign ?body ?done
  case assign =>
    intro L v W K hK
    gi_wp2
    exact hK
  case body =>
    rintro L pre x u W ⟨v, vs, hi⟩ hu ⟨rest, hx⟩
    have hpre : pre.length ≤ 2814749767107 := by
      have := congrArg List.length hx
      rw [chunks_len, List.length_append] at this
      have h2 : R.many l.length ≤ 2814749767107 := by unfold R.many; split <;> omega
      omega
    obtain ⟨Av, capv, rfl, hcv⟩ : ∃ A cap, v = .slice A pre.length cap ∧ pre.length ≤ cap := by
      obtain ⟨_, A, cap, e, hc, _⟩ := S.Sg.of_own hi.row
      exact ⟨A, cap, e, hc⟩
    obtain ⟨Au, capu, rfl, hcu⟩ : ∃ A cap, u = .slice A x.length cap ∧ x.length ≤ cap := by
      obtain ⟨_, A, cap, e, hc, _⟩ := S.Sg.of_own hu
      exact ⟨A, cap, e, hc⟩
    obtain ⟨q, hq⟩ : ∃ q, q = (s + pre.length) % 4294967296 := ⟨_, rfl⟩
    have hq' : ((s : Int) + (pre.length : Int)) % 4294967296 = (q : Int) := by omega
    have c1 := hi.be.cell
    have c2 := hi.bs.cell
    have c3 := hi.bf.cell
    have HI := Lib.hid hi
    have HU := Lib.hid hu
    have HQ := Lib.hid hq
    clear hi hu hq hx
    dsimp only
    have hrow := HI.out.row
    gi_wp2_with (gi_at_builtin; refine wpListIn_append_own _ rfl _ _ 87 rfl w.heap.size 77 i0 (.agg #[.int .u32 0, .int .u32 0, .int .u8 0, .slice none 0 0]) 4 40 Try.underlying87 hi hz0 hz1 hz2 rfl (by decide) _ pre.length ((pfs s vs).flatMap (pfCQ e)) rfl (hrow.alloc _) ⟨W.heap.size, 0, none⟩ 1 1 [.int .u32 (e : Int), .int .u32 (q : Int), .int .u8 0, .slice Au x.length capu] rfl rfl (row_cells _ _ #[.int .u32 (e : Int), .int .u32 (q : Int), .int .u8 0, .slice Au x.length capu]) (by simp [Value.oneCell']) (by unfold maxLen; omega) (by omega) (by have := HI.out.low.size; simp; omega) ?_; intro v' w1 hown' hgrow _; obtain ⟨g', cap', rfl⟩ := ownsRow_succ hown'; obtain ⟨hv1, hinv, hk2, hb2⟩ := HI.out.more HU.out (by rw [HQ.out] at hown'; exact hown') hgrow; have hcc1 := hv1.cell; have hff1 := hv1.frozen; have HN := Lib.hid hinv; clear hinv hown' hgrow)
    exact ⟨_, _, HN.out⟩
  case done =>
    rintro D W hD ⟨v, vs, hi⟩ hK
    obtain ⟨K, hm⟩ : ∃ K, K + 1 = R.many l.length := ⟨R.many l.length - 1, by have := R.many_pos l.length; omega⟩
    rw [← hm] at hi
    have hrow := hi.row
    rw [chunks_len] at hrow
    obtain ⟨g, cap, rfl⟩ := ownsRow_succ hrow
    have hgw := World.ownsRow.lt hrow g rfl
    have hvl : vs.length = K + 1 := by rw [hi.len, chunks_len]
    have hpl : (pfs s vs).length = K + 1 := by rw [pfs_len, hvl]
    have hxl : ((pfs s vs).flatMap (pfCQ e)).length = (K + 1) * 4 := hrow.1
    have hx0 : ((pfs s vs).flatMap (pfCQ e))[2]? = some (.int .u8 0) := by
      have := V.flat_at (pfs s vs) (fun x _ => pfC_len e x) 0 (by omega) 2 (by decide)
      rw [Nat.zero_mul, Nat.zero_add] at this
      rw [this, pfs_at]
      rfl
    have c2 := V.own_cell hrow hx0
    have f2 := V.own_frozen hrow 2
    have r1 := own_put hrow 2 (.int .u8 1) (by omega) rfl
    have fk := V.own_frozen r1 (K * 4 + 2)
    have hbf := hi.bf
    have hcf := hbf.cell
    have hbf1 : Boxed (W.setCell ⟨g, 2, none⟩ (.int .u8 1)) (w.heap.size + 1 + 1) 87 (.slice (some ⟨g, 0, none⟩) (K + 1) cap) := hbf.kept (grown_set W g 2 _) (hbf.not_row (by decide) hrow)
    have hcf1 := hbf1.cell
    have hbf2 : ∀ c, Boxed ((W.setCell ⟨g, 2, none⟩ (.int .u8 1)).setCell ⟨g, K * 4 + 2, none⟩ c) (w.heap.size + 1 + 1) 87 (.slice (some ⟨g, 0, none⟩) (K + 1) cap) := fun c => hbf1.kept (grown_set _ g _ c) (hbf.not_row (by decide) hrow)
    have hK1 : (0 : Int) < ((K + 1 : Nat) : Int) := by omega
    have hkl : K ≤ 2814749767107 := by have := many_few hl; omega
    by_cases h0 : K = 0
    · have ck : (W.setCell ⟨g, 2, none⟩ (.int .u8 1)).cell? ⟨g, K * 4 + 2, none⟩ = some (.int .u8 1) := V.own_cell r1 (by rw [h0]; exact List.getElem?_set_self (by omega))
      have HF := Lib.hid (cut_done 3 hi hm (by rw [if_pos h0]) hK (by omega))
      rw [show ((3 : UInt8).toNat : Int) = 3 from rfl] at HF
      have hcf2 := (hbf2 (.int .u8 3)).cell
      clear hbf2 hi hrow r1 hx0 hxl hpl hvl hbf hbf1 hm h0
      gi_wp2
      refine ⟨by simp, .inl ⟨_, _, rfl, run_takeDeferred HF.out.1, ?_⟩⟩
      exact ⟨_, results_tmp rfl _ _ _, .slice (some ⟨g, 0, none⟩) (K + 1) cap, rfl, HF.out.2.1, HF.out.2.2⟩
    · have hxk : (((pfs s vs).flatMap (pfCQ e)).set 2 (.int .u8 1))[K * 4 + 2]? = some (.int .u8 0) := by
        rw [List.getElem?_set_ne (by omega)]
        have := V.flat_at (pfs s vs) (fun x _ => pfC_len e x) K (by omega) 2 (by decide)
        rw [this, pfs_at]
        rfl
      have ck : (W.setCell ⟨g, 2, none⟩ (.int .u8 1)).cell? ⟨g, K * 4 + 2, none⟩ = some (.int .u8 0) := V.own_cell r1 hxk
      have HF := Lib.hid (cut_done 2 hi hm (by rw [if_neg h0]) hK (by omega))
      rw [show ((2 : UInt8).toNat : Int) = 2 from rfl] at HF
      have hcf2 := (hbf2 (.int .u8 2)).cell
      clear hbf2 hi hrow r1 hx0 hxl hpl hvl hbf hbf1 hm h0 hxk
      gi_wp2
      refine ⟨by simp, .inl ⟨_, _, rfl, run_takeDeferred HF.out.1, ?_⟩⟩
      exact ⟨_, results_tmp rfl _ _ _, .slice (some ⟨g, 0, none⟩) (K + 1) cap, rfl, HF.out.2.1, HF.out.2.2⟩

theorem cut_any {w : World} {F : Nat → Prop} {v : Value} {l : List UInt8} (e s : Nat) (h : SlB w F v l) (hF : ∀ b, F b → b < w.heap.size) (he : e < 4294967296) (hs : s < 4294967296) (hl : l.length ≤ 140737488355328) :
    Calls Try.prog 38 #[.int .u32 e, .int .u32 s, v] w fun r w' => ∃ v', r = .returned v' ∧ Frs w' (S.New w w') v' (R.cut e s l) ∧ Below w.heap.size w w' :=
  callsIn_wide.1 (cut_in e s h hF he hs hl)

end Go.Proofs.Ytbjbnjpdackloaa
