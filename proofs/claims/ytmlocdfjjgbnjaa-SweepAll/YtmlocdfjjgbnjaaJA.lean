/-
  Slices of whatever elements: 'the slice v holds these cells', and what is appended to a slice of the call's own. No program's function stands here.
  Slices of bytes, of strings, of numbers, of bools: what their cells are.
  Blocks that a call keeps for itself (a struct of whatever fields): their cells, loaded, stored, returned. Conversions of a string to bytes.
  Rows of elements of many cells: one of them read, one of them written; a struct of two fields in a block. No program's function stands here.
-/
import Derived.Test.YtmlocdfjjgbnjaaRows
import Derived.WalkKit
import Derived.WalkSpells
import Derived.Maps.AppendAt
import Derived.OwnWalk
import Derived.Lib.Hide
import Derived.Deep.MidRow
import Derived.Lib.SmallJoins
import Derived.Lib.ConvBytes
import Derived.Laws.CopyOwn
namespace Go.Proofs.Ytmlocdfjjgbnjaa.S
open Go.RowKit

theorem add_block (a : Addr) (n : Nat) : (a.add n).block = a.block := by unfold Addr.add; split <;> rfl
theorem add_add (a : Addr) (i j : Nat) : (a.add i).add j = a.add (i + j) := by
  unfold Addr.add
  by_cases hi : i = 0 <;> by_cases hj : j = 0 <;> simp [hi, hj, Nat.add_assoc]

/-- the slice v holds the cells cs: n elements of k cells each, in a block of which F holds -/
def Sg (w : World) (F : Nat → Prop) (k : Nat) (v : Value) (n : Nat) (cs : List Value) : Prop :=
  cs.length = n * k ∧ ∃ A cap, v = .slice A n cap ∧ n ≤ cap ∧ (n ≠ 0 → ∃ a, A = some a ∧ F a.block ∧ ∀ j u, cs[j]? = some u → w.cell? (a.add j) = some u)

/-- blocks that a call has made -/
def New (w w' : World) (b : Nat) : Prop := w.heap.size ≤ b ∧ b < w'.heap.size

section
variable {w w' : World} {F G : Nat → Prop} {B k n : Nat} {v : Value} {cs : List Value}

theorem Sg.keep (h : Sg w F k v n cs) (hk : ∀ p : Addr, F p.block → w'.cell? p = w.cell? p) : Sg w' F k v n cs := by
  obtain ⟨h0, A, cap, e, hc, hx⟩ := h
  refine ⟨h0, A, cap, e, hc, fun hn => ?_⟩
  obtain ⟨a, e2, hb, hx2⟩ := hx hn
  exact ⟨a, e2, hb, fun j u hj => (hk _ (by rw [add_block]; exact hb)).trans (hx2 j u hj)⟩
theorem Sg.below (h : Sg w F k v n cs) (hb : Below B w w') (hF : ∀ b, F b → b < B) : Sg w' F k v n cs := h.keep fun _ hp => hb.cell (hF _ hp)
theorem Sg.wider (h : Sg w F k v n cs) (hF : ∀ b, F b → G b) : Sg w G k v n cs := by
  obtain ⟨h0, A, cap, e, hc, hx⟩ := h
  refine ⟨h0, A, cap, e, hc, fun hn => ?_⟩
  obtain ⟨a, e2, hb2, hx2⟩ := hx hn
  exact ⟨a, e2, hF _ hb2, hx2⟩
theorem Sg.drew (h : Sg w F k v n cs) : Sg w.drew F k v n cs := h
theorem Sg.nil (w : World) (F : Nat → Prop) (k : Nat) (A : Option Addr) (cap : Nat) : Sg w F k (.slice A 0 cap) 0 [] := ⟨by simp, A, cap, rfl, Nat.zero_le _, fun h => absurd rfl h⟩
theorem Sg.set (h : Sg w F k v n cs) {p : Nat} (hp : ¬ F p) (o : Nat) (u : Value) : Sg (w.setCell ⟨p, o, none⟩ u) F k v n cs :=
  h.keep fun a ha => World.cell?_setCell_other w _ _ u (fun e => hp (by rw [show p = a.block from congrArg Addr.block e]; exact ha))

/-- what the call owns lies in a block that it made -/
theorem Sg.of_own {base : Nat} {e : TypeId} (h : w.ownsRow base e k v n cs) : Sg w (fun b => base ≤ b ∧ b < w.heap.size) k v n cs := by
  have h0 := h
  rcases h.2 with ⟨rfl, rfl⟩ | ⟨g, cap, cur, rfl, _, _, hc, _⟩
  · exact ⟨h.1, none, 0, rfl, Nat.zero_le _, fun h => absurd rfl h⟩
  · refine ⟨h.1, _, cap, rfl, hc, fun _ => ⟨_, rfl, World.ownsRow.lt h0 g rfl, fun j u hj => ?_⟩⟩
    have hjl := (List.getElem?_eq_some_iff.1 hj).1
    rw [Addr.add_lit, Nat.zero_add, World.ownsRow.cellAt h0 j (by rw [h.1] at hjl; exact hjl)]
    exact hj
end

theorem own_nil (w : World) (base : Nat) (e : TypeId) (k : Nat) : w.ownsRow base e k (.slice none 0 0) 0 [] := ⟨by simp, .inl ⟨rfl, rfl⟩⟩

/-- a slice of no elements that was just made ('[]T{}') -/
theorem own_none {w : World} {base g : Nat} (e : TypeId) (k : Nat) (hg : g = w.heap.size) (hb : base ≤ g) : (w.alloc (.cells #[] e)).ownsRow base e k (.slice (some ⟨g, 0, none⟩) 0 0) 0 [] := by
  subst hg
  exact ⟨by simp, .inr ⟨w.heap.size, 0, #[], rfl, hb, heap_alloc_new w _, Nat.le_refl _, Nat.zero_le _, by simp, by simp⟩⟩

/-- what a slice type's elements are like -/
structure El (P : Program) (t e : TypeId) (k bytes : Nat) : Prop where
  und : P.underlying t = some (.slice e)
  info : ∃ (i : TypeInfo) (z : Value), P.info? e = some i ∧ i.zero = some z ∧ i.size = k ∧ i.bytes = bytes ∧ z.cells.size = k
  pos : 0 < k

section
variable {P : Program} {t e : TypeId} {k bytes : Nat}

theorem run_append_sg (L : El P t e k bytes) {w : World} {base : Nat} {F : Nat → Prop} {v0 v : Value} {n m : Nat} {xs cs : List Value} (ty : TypeId) (hown : w.ownsRow base e k v0 n xs) (h : Sg w F k v m cs) (h1 : ∀ u ∈ cs, u.oneCell' = true)
    (h63 : n + m ≤ 9223372036854775807) (hby : (n + m) * bytes ≤ 140737488355328) (hbase : base ≤ w.heap.size) :
    ∃ v' w', (Builtin.append_ #[t, t] ty #[v0, v]).run P w = .ok v' w' ∧ w'.ownsRow base e k v' (n + m) (xs ++ cs) ∧ w.grownBy w' v0.ownBlock ∧ (v'.ownBlock = v0.ownBlock ∨ v'.ownBlock = some w.heap.size) := by
  obtain ⟨i, z, hi, hz0, hz1, hz2, hz3⟩ := L.info
  obtain ⟨hl, A, cap, rfl, hcap, hx⟩ := h
  by_cases hm : m = 0
  · subst hm
    obtain rfl : cs = [] := List.length_eq_zero_iff.1 (by simpa using hl)
    cases A with
    | none =>
      refine ⟨v0, w, ?_, by simpa using hown, World.grownBy.refl w _, .inl rfl⟩
      rcases hown.2 with ⟨rfl, h0⟩ | ⟨g, cap, cur, rfl, _, _, hnc, _⟩
      · simp [Builtin.append_, run_underlying L.und, sizeOf, typeInfo, hi, Builtin.lenOf, Builtin.firstCells]
      · simp [Builtin.append_, run_underlying L.und, sizeOf, typeInfo, hi, Builtin.lenOf, Builtin.firstCells, hnc, storeCells]
    | some a =>
      obtain ⟨v', w', h1, h2, h3, _, h5⟩ := run_append_own_at (P := P) w base t ty e i z k bytes L.und hi hz0 hz1 hz2 hz3 L.pos v0 n xs hown a 0 cap [] (by simp) (fun j u hu => by simp at hu) (fun u hu => by cases hu)
        (by unfold maxLen; omega) hby hbase
      exact ⟨v', w', h1, h2, h3, h5⟩
  · obtain ⟨a, rfl, _, hc⟩ := hx hm
    obtain ⟨v', w', h1, h2, h3, _, h5⟩ := run_append_own_at (P := P) w base t ty e i z k bytes L.und hi hz0 hz1 hz2 hz3 L.pos v0 n xs hown a m cap cs hl hc h1 (by unfold maxLen; omega) hby hbase
    exact ⟨v', w', h1, h2, h3, h5⟩

theorem wp_append_sg (L : El P t e k bytes) {o : Oper} {a : Act} {w : World} {K : Act → World → Prop} {Q : Exit → Act → World → Prop} (s x : Operand)
    (ho : o.op = .call { callee := .builtin .append, args := #[s, x], argTypes := #[t, t] })
    {base : Nat} {F : Nat → Prop} {v0 v : Value} {n m : Nat} {xs cs : List Value} (hs : a.eval s = v0) (hx : a.eval x = v) (hown : w.ownsRow base e k v0 n xs) (h : Sg w F k v m cs) (h1 : ∀ u ∈ cs, u.oneCell' = true)
    (h63 : n + m ≤ 9223372036854775807) (hby : (n + m) * bytes ≤ 140737488355328) (hbase : base ≤ w.heap.size)
    (hk : ∀ v' w', w'.ownsRow base e k v' (n + m) (xs ++ cs) → w.grownBy w' v0.ownBlock → (v'.ownBlock = v0.ownBlock ∨ v'.ownBlock = some w.heap.size) → K (a.put o.dst v') w') : o.wp P a w K Q := by
  obtain ⟨v', w', hrun, h2, h3, h4⟩ := run_append_sg L (w := w) o.type hown h h1 h63 hby hbase
  unfold Oper.wp execOp
  simp only [ho, resolve, invoke, builtin, Sem.run_bind, Sem.run_pure, Result.andThen_ok, List.map_toArray, List.map_cons, List.map_nil, hs, hx, hrun]
  exact hk v' w' h2 h3 h4

theorem wpList_append_sg (L : El P t e k bytes) {ops : Array Oper} {rest : List Oper} {o : Oper} {a : Act} {w : World} {Q : Exit → Act → World → Prop} (hgd : o.guard = none) (s x : Operand)
    (ho : o.op = .call { callee := .builtin .append, args := #[s, x], argTypes := #[t, t] })
    {base : Nat} {F : Nat → Prop} {v0 v : Value} {n m : Nat} {xs cs : List Value} (hs : a.eval s = v0) (hx : a.eval x = v) (hown : w.ownsRow base e k v0 n xs) (h : Sg w F k v m cs) (h1 : ∀ u ∈ cs, u.oneCell' = true)
    (h63 : n + m ≤ 9223372036854775807) (hby : (n + m) * bytes ≤ 140737488355328) (hbase : base ≤ w.heap.size)
    (hk : ∀ v' w', w'.ownsRow base e k v' (n + m) (xs ++ cs) → w.grownBy w' v0.ownBlock → (v'.ownBlock = v0.ownBlock ∨ v'.ownBlock = some w.heap.size) → wpList P ops Q rest (a.put o.dst v') w') : wpList P ops Q (o :: rest) a w :=
  wpList_plain hgd fun _ hK => wp_append_sg L s x ho hs hx hown h h1 h63 hby hbase fun v' w' h2 h3 h4 => hK _ _ (hk v' w' h2 h3 h4)

/-- in a region that draws, behind a guard that is met -/
theorem step_append_sg (L : El P t e k bytes) {ops : Array Oper} {o : Oper} {a : Act} {w : World} {K : Act → World → Prop} {Q : Exit → Act → World → Prop} {E : Prop} (hw : Region.wanted o (yielded ops a.tmps) = true) (s x : Operand)
    (ho : o.op = .call { callee := .builtin .append, args := #[s, x], argTypes := #[t, t] })
    {base : Nat} {F : Nat → Prop} {v0 v : Value} {n m : Nat} {xs cs : List Value} (hs : a.eval s = v0) (hx : a.eval x = v) (hown : w.ownsRow base e k v0 n xs) (h : Sg w F k v m cs) (h1 : ∀ u ∈ cs, u.oneCell' = true)
    (h63 : n + m ≤ 9223372036854775807) (hby : (n + m) * bytes ≤ 140737488355328) (hbase : base ≤ w.heap.size)
    (hk : ∀ v' w', w'.ownsRow base e k v' (n + m) (xs ++ cs) → w.grownBy w' v0.ownBlock → (v'.ownBlock = v0.ownBlock ∨ v'.ownBlock = some w.heap.size) → K (a.put o.dst v') w') :
    if Region.wanted o (yielded ops a.tmps) = true then Oper.wp P o a w K Q else E := by
  rw [if_pos hw]
  exact wp_append_sg L s x ho hs hx hown h h1 h63 hby hbase hk
end

/-- what the call owns stays so behind whatever turns nothing that was there -/
theorem own_below {w w' : World} {base k n : Nat} {e : TypeId} {v : Value} {xs : List Value} (h : w.ownsRow base e k v n xs) (hb : Below w.heap.size w w') : w'.ownsRow base e k v n xs := by
  have h0 := h
  refine ⟨h.1, ?_⟩
  rcases h.2 with hn | ⟨g, cap, cur, hv, hbs, hg, rest⟩
  · exact .inl hn
  · subst hv
    exact .inr ⟨g, cap, cur, rfl, hbs, (hb.block g (World.ownsRow.lt h0 g rfl).2).trans hg, rest⟩

/-- .. or nothing below a number under which its block lies -/
theorem own_under {w w' : World} {base k n B : Nat} {e : TypeId} {v : Value} {xs : List Value} (h : w.ownsRow base e k v n xs) (hb : Below B w w') (hlt : ∀ j, v.ownBlock = some j → j < B) : w'.ownsRow base e k v n xs := by
  refine ⟨h.1, ?_⟩
  rcases h.2 with hn | ⟨g, cap, cur, hv, hbs, hg, rest⟩
  · exact .inl hn
  · subst hv
    exact .inr ⟨g, cap, cur, rfl, hbs, (hb.block g (hlt g rfl)).trans hg, rest⟩

/-- .. and behind a store into another block -/
theorem own_set {w : World} {base k n : Nat} {e : TypeId} {v : Value} {xs : List Value} (h : w.ownsRow base e k v n xs) {p : Nat} (hp : p < base) (o : Nat) (u : Value) : (w.setCell ⟨p, o, none⟩ u).ownsRow base e k v n xs := by
  refine ⟨h.1, ?_⟩
  rcases h.2 with hn | ⟨g, cap, cur, hv, hbs, hg, rest⟩
  · exact .inl hn
  · exact .inr ⟨g, cap, cur, hv, hbs, (Below.heap_setCell w ⟨p, o, none⟩ u g (show g ≠ p by omega)).trans hg, rest⟩

/-- an append to what the call owns turns nothing below its own blocks -/
theorem below_base {w w' : World} {base k n : Nat} {e : TypeId} {v : Value} {xs : List Value} (hown : w.ownsRow base e k v n xs) (hB : base ≤ w.heap.size) (hg : w.grownBy w' v.ownBlock) : Below base w w' :=
  (Below.refl _ _).grown hg hB (fun j hj => (World.ownsRow.lt hown j hj).1)

/-- behind an append to what the call owns nothing older has turned -/
theorem below_app {w w1 w2 : World} {base k n : Nat} {e : TypeId} {v : Value} {xs : List Value} (hb : Below w.heap.size w w1) (hB : w.heap.size ≤ base) (hown : w1.ownsRow base e k v n xs) (hg : w1.grownBy w2 v.ownBlock) : Below w.heap.size w w2 :=
  hb.grown hg hb.size (fun j hj => Nat.le_trans hB (World.ownsRow.lt hown j hj).1)

/-- a slice of one element of one cell that was just laid (what 'append(s, x)' makes of x) -/
theorem Sg.one (w : World) (e : TypeId) (u : Value) : Sg (w.alloc (.cells #[u] e)) (fun b => b = w.heap.size) 1 (.slice (some ⟨w.heap.size, 0, none⟩) 1 1) 1 [u] :=
  ⟨rfl, _, 1, rfl, Nat.le_refl _, fun _ => ⟨_, rfl, rfl, fun j x hj => by
    match j, hj with
    | 0, hj =>
      cases hj
      rw [Addr.add_lit, World.cell?_alloc_mark]
      rfl⟩⟩

end Go.Proofs.Ytmlocdfjjgbnjaa.S

namespace Go.Proofs.Ytmlocdfjjgbnjaa
open Go.RowKit

theorem ret_v {a b : Value} (h : a = b) : Ending.returned a = .returned b := by rw [h]
theorem v_bool {a b : Bool} (h : a = b) : Value.bool a = .bool b := by rw [h]
theorem below_two {w0 w1 w2 : World} (h1 : Below w0.heap.size w0 w1) (h2 : Below w1.heap.size w1 w2) : Below w0.heap.size w0 w2 := h1.trans (h2.mono h1.size)
theorem bytes_eta (s : ByteArray) : (⟨s.data.toList.toArray⟩ : ByteArray) = s := by cases s; simp

def bytesV (l : List UInt8) : List Value := l.map fun c => .int .u8 (c.toNat : Int)
def strV (l : List (List UInt8)) : List Value := l.map fun s => .string ⟨s.toArray⟩
def intV (l : List Nat) : List Value := l.map fun (n : Nat) => .int .i64 (n : Int)
def boolV (l : List Bool) : List Value := l.map fun b => .bool b

theorem bytesV_length (l : List UInt8) : (bytesV l).length = l.length := by simp [bytesV]
theorem bytesV_append (a b : List UInt8) : bytesV (a ++ b) = bytesV a ++ bytesV b := by simp [bytesV]
theorem bytesV_one (l : List UInt8) : ∀ u ∈ bytesV l, u.oneCell' = true := by
  intro u hu; simp [bytesV] at hu; obtain ⟨c, _, rfl⟩ := hu; rfl
theorem bytesV_at (l : List UInt8) (j : Nat) (h : j < l.length) : (bytesV l)[j]? = some (.int .u8 (l[j].toNat : Int)) := by simp [bytesV, h]
theorem strV_length (l : List (List UInt8)) : (strV l).length = l.length := by simp [strV]
theorem strV_append (a b : List (List UInt8)) : strV (a ++ b) = strV a ++ strV b := by simp [strV]
theorem strV_one (l : List (List UInt8)) : ∀ u ∈ strV l, u.oneCell' = true := by
  intro u hu; simp [strV] at hu; obtain ⟨c, _, rfl⟩ := hu; rfl
theorem strV_at (l : List (List UInt8)) (j : Nat) (h : j < l.length) : (strV l)[j]? = some (.string ⟨l[j].toArray⟩) := by simp [strV, h]
theorem strV_set (l : List (List UInt8)) (j : Nat) (s : List UInt8) : strV (l.set j s) = (strV l).set j (.string ⟨s.toArray⟩) := by rw [strV, List.map_set]; rfl
theorem intV_length (l : List Nat) : (intV l).length = l.length := by simp [intV]
theorem intV_append (a b : List Nat) : intV (a ++ b) = intV a ++ intV b := by simp [intV]
theorem intV_one (l : List Nat) : ∀ u ∈ intV l, u.oneCell' = true := by
  intro u hu; simp [intV] at hu; obtain ⟨c, _, rfl⟩ := hu; rfl
theorem intV_at (l : List Nat) (j : Nat) (h : j < l.length) : (intV l)[j]? = some (.int .i64 (l[j] : Int)) := by simp [intV, h]
theorem boolV_length (l : List Bool) : (boolV l).length = l.length := by simp [boolV]
theorem boolV_append (a b : List Bool) : boolV (a ++ b) = boolV a ++ boolV b := by simp [boolV]
theorem boolV_one (l : List Bool) : ∀ u ∈ boolV l, u.oneCell' = true := by
  intro u hu; obtain ⟨c, _, rfl⟩ := List.mem_map.1 hu; rfl
theorem boolV_at (l : List Bool) (j : Nat) (h : j < l.length) : (boolV l)[j]? = some (.bool l[j]) := by simp [boolV, h]

/-- the slice v holds the bytes l (the strings, the numbers, the bools l) -/
abbrev SlB (w : World) (F : Nat → Prop) (v : Value) (l : List UInt8) : Prop := S.Sg w F 1 v l.length (bytesV l)
abbrev SlS (w : World) (F : Nat → Prop) (v : Value) (l : List (List UInt8)) : Prop := S.Sg w F 1 v l.length (strV l)
abbrev SlI (w : World) (F : Nat → Prop) (v : Value) (l : List Nat) : Prop := S.Sg w F 1 v l.length (intV l)
abbrev SlT (w : World) (F : Nat → Prop) (v : Value) (l : List Bool) : Prop := S.Sg w F 1 v l.length (boolV l)

theorem info_el {P : Program} {t e : TypeId} {z : Value} {b : Nat} (ht : P.underlying t = some (.slice e)) (h : (P.info? e).map (fun i => (i.zero, i.size, i.bytes)) = some (some z, 1, b)) (hz : z.cells.size = 1) : S.El P t e 1 b := by
  obtain ⟨i0, hi, hz0, hz1, hz2⟩ := info_parts h
  exact ⟨ht, ⟨i0, z, hi, hz0, hz1, hz2, hz⟩, by decide⟩

end Go.Proofs.Ytmlocdfjjgbnjaa

namespace Go.Proofs.Ytmlocdfjjgbnjaa
open Go.RowKit

/-- the block p holds vs, and may be written -/
structure Bk (w : World) (p : Nat) (vs : List Value) : Prop where
  lt : p < w.heap.size
  cell : ∀ j u, vs[j]? = some u → w.cell? ⟨p, j, none⟩ = some u
  fz : ∀ j, j < vs.length → w.frozen? ⟨p, j, none⟩ = false

section
variable {w w' : World} {p q B : Nat} {vs : List Value} {u v : Value}

theorem bk_ne {q p : Nat} (h : q ≠ p) (o k : Nat) : (⟨q, o, none⟩ : Addr) ≠ ⟨p, k, none⟩ := fun e => by cases e; exact h rfl

theorem Bk.new (w : World) (vs : List Value) (t : TypeId) {g : Nat} (hg : g = w.heap.size) : Bk (w.alloc (.cells vs.toArray t)) g vs := by
  subst hg
  have h : (w.alloc (.cells vs.toArray t)).heap[w.heap.size]? = some (.cells vs.toArray t (0, 0)) := heap_alloc_new w _
  exact ⟨by simp, fun j u hj => by rw [cell_of_row _ _ _ _ _ _ h]; simpa using hj, fun j _ => by rw [World.frozen?, h]; simp⟩

theorem Bk.keep (h : Bk w p vs) (hk : w'.heap[p]? = w.heap[p]?) (hs : w.heap.size ≤ w'.heap.size) : Bk w' p vs :=
  ⟨Nat.lt_of_lt_of_le h.lt hs, fun j u hj => (World.cell?_of_block hk).trans (h.cell j u hj), fun j hj => (World.frozen?_of_block hk).trans (h.fz j hj)⟩
theorem Bk.below (h : Bk w p vs) (hb : Below B w w') (hp : p < B) : Bk w' p vs := h.keep (hb.block p hp) hb.size
theorem Bk.step (h : Bk w p vs) (hb : Below w.heap.size w w') : Bk w' p vs := h.below hb h.lt
theorem Bk.alloc (h : Bk w p vs) (o : Obj) : Bk (w.alloc o) p vs := h.step ((Below.refl _ _).alloc (Nat.le_refl _) o)
theorem Bk.drew (h : Bk w p vs) : Bk w.drew p vs := ⟨h.lt, h.cell, h.fz⟩
theorem Bk.other (h : Bk w p vs) (hq : q ≠ p) (o : Nat) (v : Value) : Bk (w.setCell ⟨q, o, none⟩ v) p vs :=
  h.keep (Below.heap_setCell w ⟨q, o, none⟩ v p hq.symm) (by simp [World.setCell])
theorem Bk.set (h : Bk w p vs) (i : Nat) (hi : i < vs.length) (v : Value) : Bk (w.setCell ⟨p, i, none⟩ v) p (vs.set i v) :=
  ⟨by have := h.lt; simpa [World.setCell] using this, fun j u hj => by
      rw [List.getElem?_set] at hj
      by_cases e : i = j
      · subst e
        rw [if_pos rfl, if_pos hi] at hj
        cases hj
        exact World.cell?_setCell_same w _ v (h.cell i _ (List.getElem?_eq_getElem hi))
      · rw [if_neg e] at hj
        exact (World.cell?_setCell_other w _ _ v (fun g => by cases g; exact e rfl)).trans (h.cell j u hj),
    fun j hj => by rw [World.frozen?_setCell]; exact h.fz j (by simpa using hj)⟩

theorem load_bk {P : Program} {ty : TypeId} {d : TypeDesc} (h : Bk w p vs) (hu : P.underlying ty = some d) (hd : d.isRow = true) (hi : (P.info? ty).map (·.size) = some vs.length) : (loadVar ty ⟨p, 0, none⟩).run P w = .ok (.agg vs.toArray) w :=
  run_loadVar_mid (P := P) w p 0 ty vs d (fun j v hj => by rw [Nat.zero_add]; exact h.cell j v hj) hu hd hi

theorem results_bk {P : Program} {fn : Func} {r : Tmp} {ty : TypeId} {d : TypeDesc} (hr : fn.results = #[.cell r ty]) (tmps : Array Value) (hp : tmps.getD r undef = .pointer (some ⟨p, 0, none⟩)) (h : Bk w p vs)
    (hu : P.underlying ty = some d) (hd : d.isRow = true) (hi : (P.info? ty).map (·.size) = some vs.length) : (results fn tmps).run P w = .ok (.agg vs.toArray) w := by
  have hl := load_bk h hu hd hi
  have hp' : tmps[r]?.getD undef = .pointer (some ⟨p, 0, none⟩) := by simpa using hp
  simp [results, hr, hp', asAddr, hl]

theorem results_bk_1 {P : Program} {fn : Func} {r s : Tmp} {ty : TypeId} {d : TypeDesc} (hr : fn.results = #[.cell r ty, .tmp s]) (tmps : Array Value) (hp : tmps.getD r undef = .pointer (some ⟨p, 0, none⟩)) (h : Bk w p vs)
    (hu : P.underlying ty = some d) (hd : d.isRow = true) (hi : (P.info? ty).map (·.size) = some vs.length) : (results fn tmps).run P w = .ok (.tuple #[.agg vs.toArray, tmps.getD s undef]) w := by
  have hl := load_bk h hu hd hi
  have hp' : tmps[r]?.getD undef = .pointer (some ⟨p, 0, none⟩) := by simpa using hp
  simp [results, hr, hp', asAddr, hl]
end

/-- all four cells stored -/
theorem Bk.all4 {w : World} {p : Nat} {a b c d : Value} (h : Bk w p [a, b, c, d]) (a' b' c' d' : Value) : Bk ((((w.setCell ⟨p, 0, none⟩ a').setCell ⟨p, 1, none⟩ b').setCell ⟨p, 2, none⟩ c').setCell ⟨p, 3, none⟩ d') p [a', b', c', d'] :=
  (((h.set 0 (by simp) a').set 1 (by simp) b').set 2 (by simp) c').set 3 (by simp) d'

end Go.Proofs.Ytmlocdfjjgbnjaa

namespace Go.Proofs.Ytmlocdfjjgbnjaa.V
open Go.RowKit

section
variable {α : Type} {f : α → List Value} {m : Nat}

theorem flat_len : ∀ (l : List α), (∀ x ∈ l, (f x).length = m) → (l.flatMap f).length = l.length * m
  | [], _ => by simp
  | x :: r, h => by
    rw [List.flatMap_cons, List.length_append, h x (by simp), flat_len r (fun y hy => h y (by simp [hy])), List.length_cons, Nat.succ_mul, Nat.add_comm]

theorem flat_at : ∀ (l : List α), (∀ x ∈ l, (f x).length = m) → ∀ (i : Nat) (hi : i < l.length) (j : Nat), j < m → (l.flatMap f)[i * m + j]? = (f l[i])[j]?
  | [], _, i, hi, _, _ => by simp at hi
  | x :: r, h, 0, _, j, hj => by
    rw [List.flatMap_cons, List.getElem?_append_left (by rw [h x (by simp)]; omega)]; simp
  | x :: r, h, i + 1, hi, j, hj => by
    have hx := h x (by simp)
    have e : (i + 1) * m + j - (f x).length = i * m + j := by rw [hx, Nat.succ_mul]; omega
    rw [List.flatMap_cons, List.getElem?_append_right (by rw [hx, Nat.succ_mul]; omega), e, flat_at r (fun y hy => h y (by simp [hy])) i (by simpa using hi) j hj]
    simp

theorem flat_set : ∀ (l : List α), (∀ x ∈ l, (f x).length = m) → ∀ (i : Nat), i < l.length → ∀ y, (f y).length = m → (l.set i y).flatMap f = splice (l.flatMap f) (i * m) (f y)
  | [], _, i, hi, _, _ => by simp at hi
  | x :: r, h, 0, _, y, hy => by
    have hx := h x (by simp)
    rw [List.set_cons_zero, List.flatMap_cons, List.flatMap_cons, splice, Nat.zero_mul, List.take_zero, List.nil_append, Nat.zero_add, hy, ← hx, List.drop_left]
  | x :: r, h, i + 1, hi, y, hy => by
    have hx := h x (by simp)
    have ih := flat_set r (fun y hy => h y (by simp [hy])) i (by simpa using hi) y hy
    have e1 : (i + 1) * m = (f x).length + i * m := by rw [hx, Nat.succ_mul, Nat.add_comm]
    rw [List.set_cons_succ, List.flatMap_cons, List.flatMap_cons, ih, splice, splice, e1, List.take_length_add_append, Nat.add_assoc, List.drop_length_add_append, List.append_assoc]

theorem flat_one (l : List α) (h : ∀ x ∈ l, ∀ u ∈ f x, u.oneCell' = true) : ∀ u ∈ l.flatMap f, u.oneCell' = true := fun u hu => by
  obtain ⟨x, hx, hu⟩ := List.mem_flatMap.1 hu
  exact h x hx u hu
end

/-! what a call owns -/
section
variable {w w' : World} {base k n : Nat} {e : TypeId} {v : Value} {xs : List Value}

theorem own_form (h : w.ownsRow base e k v n xs) (hn : 0 < n) : ∃ g cap cur, v = .slice (some ⟨g, 0, none⟩) n cap ∧ g < w.heap.size ∧ n ≤ cap ∧ w.heap[g]? = some (.cells cur e (0, 0)) ∧ cur.size = cap * k ∧ cur.toList.take (n * k) = xs := by
  have h0 := h
  rcases h.2 with ⟨_, h1⟩ | ⟨g, cap, cur, rfl, _, hg, hc, _, h1, h2⟩
  · omega
  · exact ⟨g, cap, cur, rfl, (World.ownsRow.lt h0 g rfl).2, hc, hg, h1, h2⟩

theorem own_keep (h : w.ownsRow base e k v n xs) (hk : ∀ j, v.ownBlock = some j → w'.heap[j]? = w.heap[j]?) : w'.ownsRow base e k v n xs := by
  refine ⟨h.1, ?_⟩
  rcases h.2 with hn | ⟨g, cap, cur, rfl, hb, hg, rest⟩
  · exact .inl hn
  · exact .inr ⟨g, cap, cur, rfl, hb, (hk g rfl).trans hg, rest⟩

theorem own_base (h : w.ownsRow base e k v n xs) : w.ownsRow 0 e k v n xs := by
  refine ⟨h.1, ?_⟩
  rcases h.2 with hn | ⟨g, cap, cur, rfl, hb, rest⟩
  · exact .inl hn
  · exact .inr ⟨g, cap, cur, rfl, Nat.zero_le _, rest⟩

theorem own_raise {base' : Nat} (h : w.ownsRow base e k v n xs) (hb : ∀ j, v.ownBlock = some j → base' ≤ j) : w.ownsRow base' e k v n xs := by
  refine ⟨h.1, ?_⟩
  rcases h.2 with hn | ⟨g, cap, cur, rfl, _, rest⟩
  · exact .inl hn
  · exact .inr ⟨g, cap, cur, rfl, hb g rfl, rest⟩

theorem own_cell {g cap : Nat} (h : w.ownsRow base e k (.slice (some ⟨g, 0, none⟩) n cap) n xs) {j : Nat} {u : Value} (hj : xs[j]? = some u) : w.cell? ⟨g, j, none⟩ = some u := by
  rcases h.2 with ⟨h1, _⟩ | ⟨g', cap', cur, he, _, hg, hc, _, h1, h2⟩
  · cases h1
  · cases he
    rw [← h2, List.getElem?_take] at hj
    split at hj
    · simp [World.cell?, hg]; simpa using hj
    · cases hj

theorem own_frozen {g cap : Nat} (h : w.ownsRow base e k (.slice (some ⟨g, 0, none⟩) n cap) n xs) (j : Nat) : w.frozen? ⟨g, j, none⟩ = false := by
  rcases h.2 with ⟨h1, _⟩ | ⟨g', cap', cur, he, _, hg, _⟩
  · cases h1
  · cases he
    simp [World.frozen?, hg]

theorem own_range {α : Type} {f : α → List Value} {l : List α} {g cap : Nat} (h : w.ownsRow base e k (.slice (some ⟨g, 0, none⟩) n cap) n (l.flatMap f)) (hf : ∀ x ∈ l, (f x).length = k) (i : Nat) (hi : i < l.length) : w.rangeAt g (i * k) (f l[i]) := by
  intro j u hj
  have hjl : j < k := by
    have := (List.getElem?_eq_some_iff.1 hj).1
    rwa [hf _ (List.getElem_mem hi)] at this
  refine own_cell h ?_
  rw [flat_at l hf i hi j hjl]
  exact hj

theorem own_there {g cap : Nat} (h : w.ownsRow base e k (.slice (some ⟨g, 0, none⟩) n cap) n xs) (o c : Nat) (ho : o + c ≤ n * k) : w.there g o c := fun j hj =>
  ⟨by rw [own_cell h (List.getElem?_eq_getElem (by rw [h.1]; omega))]; rfl, own_frozen h _⟩

/-- many cells set, as one row set -/
theorem setCells_row {g : Nat} {t : TypeId} {cur : Array Value} (P : Program) (hg : w.heap[g]? = some (.cells cur t (0, 0))) (o : Nat) (vs : List Value) (ho : o + vs.length ≤ cur.size) (h1 : ∀ v ∈ vs, v.oneCell' = true) : w.setCells g o vs = w.setRow g (splice cur.toList o vs).toArray := by
  have a := run_storeCells_at P g o t vs 0 cur w hg (by simpa using ho) h1
  have b := run_storeCells_cells (P := P) g o vs 0 w (fun j hj => by simp [World.cell?, hg]; omega) (fun j hj => by simp [World.frozen?, hg]) h1
  rw [b] at a
  simp only [Nat.add_zero, Result.ok.injEq, true_and] at a
  rw [a, splice, List.append_assoc]

theorem take_splice {α : Type} (L : List α) (o N : Nat) (cs : List α) (h : o + cs.length ≤ N) (hL : o ≤ L.length) : (splice L o cs).take N = splice (L.take N) o cs := by
  have e1 : (L.take o).length = o := by rw [List.length_take]; omega
  rw [splice, splice, List.take_append, List.take_append, e1, List.take_take, List.take_take, List.drop_take, Nat.min_eq_right (by omega : o ≤ N), Nat.min_eq_left (by omega : o ≤ N),
    List.take_of_length_le (by omega : cs.length ≤ N - o), show N - o - cs.length = N - (o + cs.length) by omega]

theorem own_stored {g cap : Nat} (P : Program) (h : w.ownsRow base e k (.slice (some ⟨g, 0, none⟩) n cap) n xs) (o : Nat) (cs : List Value) (ho : o + cs.length ≤ n * k) (h1 : ∀ v ∈ cs, v.oneCell' = true) :
    (w.setCells g o cs).ownsRow base e k (.slice (some ⟨g, 0, none⟩) n cap) n (splice xs o cs) ∧ (w.setCells g o cs).heap.size = w.heap.size ∧ (∀ j, j ≠ g → (w.setCells g o cs).heap[j]? = w.heap[j]?) ∧ (w.setCells g o cs).os = w.os ∧ (w.setCells g o cs).tape = w.tape ∧ (w.setCells g o cs).output = w.output := by
  rcases h.2 with ⟨h2, _⟩ | ⟨g', cap', cur, he, hb, hg, hc, hm, h3, h4⟩
  · cases h2
  · cases he
    have hle : n * k ≤ cap * k := Nat.mul_le_mul_right _ hc
    have es := setCells_row P hg o cs (by omega) h1
    rw [es]
    refine ⟨⟨?_, .inr ⟨g, cap, _, rfl, hb, setRow_heap w g cur _ _ _ hg, hc, hm, ?_, ?_⟩⟩, by simp [World.setRow], fun j hj => setRow_other w g j _ hj, rfl, rfl, rfl⟩
    · rw [length_splice _ _ _ (by rw [h.1]; exact ho), h.1]
    · rw [List.size_toArray, length_splice _ _ _ (by simp; omega), Array.length_toList, h3]
    · rw [← h4]; exact take_splice _ _ _ _ ho (by simp; omega)
end

end Go.Proofs.Ytmlocdfjjgbnjaa.V
