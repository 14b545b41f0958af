/-
  Slices of whatever elements: 'the slice v holds these cells', and what is appended to a slice of the call's own. No program's function stands here.
  Slices of bytes, of strings, of numbers, of bools: what their cells are.
  The plain mathematics of layer pack: bytes of a number, the number of bytes, texts with their zeros marked, and the order of all these. No program stands here.
  Numbers as four bytes, as the document has them: told and taken.
  Numbers as four bytes, as the program has them: told and taken.
  Plain mathematics of the sums of layer crc: no program, no memory.
  Sums of bytes, as the document has them.
  Sums of bytes, as the program makes them.
  The plain mathematics of layer frame: a frame's sector, the frame of a sector, a record's frames. No program stands here.
  Blocks that a call keeps for itself (a struct of whatever fields): their cells, loaded, stored, returned. Conversions of a string to bytes.
-/
import Derived.Test.YtbjbnjpdackloaaRows
import Derived.WalkKit
import Derived.WalkSpells
import Derived.Maps.AppendAt
import Derived.OwnWalk
import Derived.Lib.Hide
import GoSem.Op.String
import Derived.WalkLawsBesides
import Derived.Deep.RegionWith
import Derived.Lib.Strings
import Derived.Lib.IndexBytes
import Derived.Lib.SmallJoins
import Derived.Deep.WholeRow
import Derived.Laws.CopyOwn
import Derived.Deep.MidRow
import Derived.Lib.ConvBytes
namespace Go.Proofs.Ytbjbnjpdackloaa.S
open Go.RowKit

theorem add_block (a : Addr) (n : Nat) : (a.add n).block = a.block := by unfold Addr.add; split <;> rfl
theorem add_add (a : Addr) (i j : Nat) : (a.add i).add j = a.add (i + j) := by
  unfold Addr.add
  by_cases hi : i = 0 <;> by_cases hj : j = 0 <;> simp [hi, hj, Nat.add_assoc]

/-- the slice v holds the cells cs: n elements of k cells each, in a block of which F holds -/
def Sg (w : World) (F : Nat → Prop) (k : Nat) (v : Value) (n : Nat) (cs : List Value) : Prop :=
  cs.length = n * k ∧ ∃ A cap, v = .slice A n cap ∧ n ≤ cap ∧ (n ≠ 0 → ∃ a, A = some a ∧ F a.block ∧ ∀ j u, cs[j]? = some u → w.cell? (a.add j) = some u)

/-- blocks that a call has made -/
def New (w w' : World) (b : Nat) : Prop := w.heap.size ≤ b ∧ b < w'.heap.size

section
variable {w w' : World} {F G : Nat → Prop} {B k n : Nat} {v : Value} {cs : List Value}

theorem Sg.keep (h : Sg w F k v n cs) (hk : ∀ p : Addr, F p.block → w'.cell? p = w.cell? p) : Sg w' F k v n cs := by
  obtain ⟨h0, A, cap, e, hc, hx⟩ := h
  refine ⟨h0, A, cap, e, hc, fun hn => ?_⟩
  obtain ⟨a, e2, hb, hx2⟩ := hx hn
  exact ⟨a, e2, hb, fun j u hj => (hk _ (by rw [add_block]; exact hb)).trans (hx2 j u hj)⟩
theorem Sg.below (h : Sg w F k v n cs) (hb : Below B w w') (hF : ∀ b, F b → b < B) : Sg w' F k v n cs := h.keep fun _ hp => hb.cell (hF _ hp)
theorem Sg.wider (h : Sg w F k v n cs) (hF : ∀ b, F b → G b) : Sg w G k v n cs := by
  obtain ⟨h0, A, cap, e, hc, hx⟩ := h
  refine ⟨h0, A, cap, e, hc, fun hn => ?_⟩
  obtain ⟨a, e2, hb2, hx2⟩ := hx hn
  exact ⟨a, e2, hF _ hb2, hx2⟩
theorem Sg.drew (h : Sg w F k v n cs) : Sg w.drew F k v n cs := h
theorem Sg.nil (w : World) (F : Nat → Prop) (k : Nat) (A : Option Addr) (cap : Nat) : Sg w F k (.slice A 0 cap) 0 [] := ⟨by simp, A, cap, rfl, Nat.zero_le _, fun h => absurd rfl h⟩
theorem Sg.set (h : Sg w F k v n cs) {p : Nat} (hp : ¬ F p) (o : Nat) (u : Value) : Sg (w.setCell ⟨p, o, none⟩ u) F k v n cs :=
  h.keep fun a ha => World.cell?_setCell_other w _ _ u (fun e => hp (by rw [show p = a.block from congrArg Addr.block e]; exact ha))

/-- what the call owns lies in a block that it made -/
theorem Sg.of_own {base : Nat} {e : TypeId} (h : w.ownsRow base e k v n cs) : Sg w (fun b => base ≤ b ∧ b < w.heap.size) k v n cs := by
  have h0 := h
  rcases h.2 with ⟨rfl, rfl⟩ | ⟨g, cap, cur, rfl, _, _, hc, _⟩
  · exact ⟨h.1, none, 0, rfl, Nat.zero_le _, fun h => absurd rfl h⟩
  · refine ⟨h.1, _, cap, rfl, hc, fun _ => ⟨_, rfl, World.ownsRow.lt h0 g rfl, fun j u hj => ?_⟩⟩
    have hjl := (List.getElem?_eq_some_iff.1 hj).1
    rw [Addr.add_lit, Nat.zero_add, World.ownsRow.cellAt h0 j (by rw [h.1] at hjl; exact hjl)]
    exact hj
end

theorem own_nil (w : World) (base : Nat) (e : TypeId) (k : Nat) : w.ownsRow base e k (.slice none 0 0) 0 [] := ⟨by simp, .inl ⟨rfl, rfl⟩⟩

/-- a slice of no elements that was just made ('[]T{}') -/
theorem own_none {w : World} {base g : Nat} (e : TypeId) (k : Nat) (hg : g = w.heap.size) (hb : base ≤ g) : (w.alloc (.cells #[] e)).ownsRow base e k (.slice (some ⟨g, 0, none⟩) 0 0) 0 [] := by
  subst hg
  exact ⟨by simp, .inr ⟨w.heap.size, 0, #[], rfl, hb, heap_alloc_new w _, Nat.le_refl _, Nat.zero_le _, by simp, by simp⟩⟩

/-- what a slice type's elements are like -/
structure El (P : Program) (t e : TypeId) (k bytes : Nat) : Prop where
  und : P.underlying t = some (.slice e)
  info : ∃ (i : TypeInfo) (z : Value), P.info? e = some i ∧ i.zero = some z ∧ i.size = k ∧ i.bytes = bytes ∧ z.cells.size = k
  pos : 0 < k

section
variable {P : Program} {t e : TypeId} {k bytes : Nat}

theorem run_append_sg (L : El P t e k bytes) {w : World} {base : Nat} {F : Nat → Prop} {v0 v : Value} {n m : Nat} {xs cs : List Value} (ty : TypeId) (hown : w.ownsRow base e k v0 n xs) (h : Sg w F k v m cs) (h1 : ∀ u ∈ cs, u.oneCell' = true)
    (h63 : n + m ≤ 9223372036854775807) (hby : (n + m) * bytes ≤ 140737488355328) (hbase : base ≤ w.heap.size) :
    ∃ v' w', (Builtin.append_ #[t, t] ty #[v0, v]).run P w = .ok v' w' ∧ w'.ownsRow base e k v' (n + m) (xs ++ cs) ∧ w.grownBy w' v0.ownBlock ∧ (v'.ownBlock = v0.ownBlock ∨ v'.ownBlock = some w.heap.size) := by
  obtain ⟨i, z, hi, hz0, hz1, hz2, hz3⟩ := L.info
  obtain ⟨hl, A, cap, rfl, hcap, hx⟩ := h
  by_cases hm : m = 0
  · subst hm
    obtain rfl : cs = [] := List.length_eq_zero_iff.1 (by simpa using hl)
    cases A with
    | none =>
      refine ⟨v0, w, ?_, by simpa using hown, World.grownBy.refl w _, .inl rfl⟩
      rcases hown.2 with ⟨rfl, h0⟩ | ⟨g, cap, cur, rfl, _, _, hnc, _⟩
      · simp [Builtin.append_, run_underlying L.und, sizeOf, typeInfo, hi, Builtin.lenOf, Builtin.firstCells]
      · simp [Builtin.append_, run_underlying L.und, sizeOf, typeInfo, hi, Builtin.lenOf, Builtin.firstCells, hnc, storeCells]
    | some a =>
      obtain ⟨v', w', h1, h2, h3, _, h5⟩ := run_append_own_at (P := P) w base t ty e i z k bytes L.und hi hz0 hz1 hz2 hz3 L.pos v0 n xs hown a 0 cap [] (by simp) (fun j u hu => by simp at hu) (fun u hu => by cases hu)
        (by unfold maxLen; omega) hby hbase
      exact ⟨v', w', h1, h2, h3, h5⟩
  · obtain ⟨a, rfl, _, hc⟩ := hx hm
    obtain ⟨v', w', h1, h2, h3, _, h5⟩ := run_append_own_at (P := P) w base t ty e i z k bytes L.und hi hz0 hz1 hz2 hz3 L.pos v0 n xs hown a m cap cs hl hc h1 (by unfold maxLen; omega) hby hbase
    exact ⟨v', w', h1, h2, h3, h5⟩

theorem wp_append_sg (L : El P t e k bytes) {o : Oper} {a : Act} {w : World} {K : Act → World → Prop} {Q : Exit → Act → World → Prop} (s x : Operand)
    (ho : o.op = .call { callee := .builtin .append, args := #[s, x], argTypes := #[t, t] })
    {base : Nat} {F : Nat → Prop} {v0 v : Value} {n m : Nat} {xs cs : List Value} (hs : a.eval s = v0) (hx : a.eval x = v) (hown : w.ownsRow base e k v0 n xs) (h : Sg w F k v m cs) (h1 : ∀ u ∈ cs, u.oneCell' = true)
    (h63 : n + m ≤ 9223372036854775807) (hby : (n + m) * bytes ≤ 140737488355328) (hbase : base ≤ w.heap.size)
    (hk : ∀ v' w', w'.ownsRow base e k v' (n + m) (xs ++ cs) → w.grownBy w' v0.ownBlock → (v'.ownBlock = v0.ownBlock ∨ v'.ownBlock = some w.heap.size) → K (a.put o.dst v') w') : o.wp P a w K Q := by
  obtain ⟨v', w', hrun, h2, h3, h4⟩ := run_append_sg L (w := w) o.type hown h h1 h63 hby hbase
  unfold Oper.wp execOp
  simp only [ho, resolve, invoke, builtin, Sem.run_bind, Sem.run_pure, Result.andThen_ok, List.map_toArray, List.map_cons, List.map_nil, hs, hx, hrun]
  exact hk v' w' h2 h3 h4

theorem wpList_append_sg (L : El P t e k bytes) {ops : Array Oper} {rest : List Oper} {o : Oper} {a : Act} {w : World} {Q : Exit → Act → World → Prop} (hgd : o.guard = none) (s x : Operand)
    (ho : o.op = .call { callee := .builtin .append, args := #[s, x], argTypes := #[t, t] })
    {base : Nat} {F : Nat → Prop} {v0 v : Value} {n m : Nat} {xs cs : List Value} (hs : a.eval s = v0) (hx : a.eval x = v) (hown : w.ownsRow base e k v0 n xs) (h : Sg w F k v m cs) (h1 : ∀ u ∈ cs, u.oneCell' = true)
    (h63 : n + m ≤ 9223372036854775807) (hby : (n + m) * bytes ≤ 140737488355328) (hbase : base ≤ w.heap.size)
    (hk : ∀ v' w', w'.ownsRow base e k v' (n + m) (xs ++ cs) → w.grownBy w' v0.ownBlock → (v'.ownBlock = v0.ownBlock ∨ v'.ownBlock = some w.heap.size) → wpList P ops Q rest (a.put o.dst v') w') : wpList P ops Q (o :: rest) a w :=
  wpList_plain hgd fun _ hK => wp_append_sg L s x ho hs hx hown h h1 h63 hby hbase fun v' w' h2 h3 h4 => hK _ _ (hk v' w' h2 h3 h4)

/-- in a region that draws, behind a guard that is met -/
theorem step_append_sg (L : El P t e k bytes) {ops : Array Oper} {o : Oper} {a : Act} {w : World} {K : Act → World → Prop} {Q : Exit → Act → World → Prop} {E : Prop} (hw : Region.wanted o (yielded ops a.tmps) = true) (s x : Operand)
    (ho : o.op = .call { callee := .builtin .append, args := #[s, x], argTypes := #[t, t] })
    {base : Nat} {F : Nat → Prop} {v0 v : Value} {n m : Nat} {xs cs : List Value} (hs : a.eval s = v0) (hx : a.eval x = v) (hown : w.ownsRow base e k v0 n xs) (h : Sg w F k v m cs) (h1 : ∀ u ∈ cs, u.oneCell' = true)
    (h63 : n + m ≤ 9223372036854775807) (hby : (n + m) * bytes ≤ 140737488355328) (hbase : base ≤ w.heap.size)
    (hk : ∀ v' w', w'.ownsRow base e k v' (n + m) (xs ++ cs) → w.grownBy w' v0.ownBlock → (v'.ownBlock = v0.ownBlock ∨ v'.ownBlock = some w.heap.size) → K (a.put o.dst v') w') :
    if Region.wanted o (yielded ops a.tmps) = true then Oper.wp P o a w K Q else E := by
  rw [if_pos hw]
  exact wp_append_sg L s x ho hs hx hown h h1 h63 hby hbase hk
end

/-- what the call owns stays so behind whatever turns nothing that was there -/
theorem own_below {w w' : World} {base k n : Nat} {e : TypeId} {v : Value} {xs : List Value} (h : w.ownsRow base e k v n xs) (hb : Below w.heap.size w w') : w'.ownsRow base e k v n xs := by
  have h0 := h
  refine ⟨h.1, ?_⟩
  rcases h.2 with hn | ⟨g, cap, cur, hv, hbs, hg, rest⟩
  · exact .inl hn
  · subst hv
    exact .inr ⟨g, cap, cur, rfl, hbs, (hb.block g (World.ownsRow.lt h0 g rfl).2).trans hg, rest⟩

/-- .. or nothing below a number under which its block lies -/
theorem own_under {w w' : World} {base k n B : Nat} {e : TypeId} {v : Value} {xs : List Value} (h : w.ownsRow base e k v n xs) (hb : Below B w w') (hlt : ∀ j, v.ownBlock = some j → j < B) : w'.ownsRow base e k v n xs := by
  refine ⟨h.1, ?_⟩
  rcases h.2 with hn | ⟨g, cap, cur, hv, hbs, hg, rest⟩
  · exact .inl hn
  · subst hv
    exact .inr ⟨g, cap, cur, rfl, hbs, (hb.block g (hlt g rfl)).trans hg, rest⟩

/-- .. and behind a store into another block -/
theorem own_set {w : World} {base k n : Nat} {e : TypeId} {v : Value} {xs : List Value} (h : w.ownsRow base e k v n xs) {p : Nat} (hp : p < base) (o : Nat) (u : Value) : (w.setCell ⟨p, o, none⟩ u).ownsRow base e k v n xs := by
  refine ⟨h.1, ?_⟩
  rcases h.2 with hn | ⟨g, cap, cur, hv, hbs, hg, rest⟩
  · exact .inl hn
  · exact .inr ⟨g, cap, cur, hv, hbs, (Below.heap_setCell w ⟨p, o, none⟩ u g (show g ≠ p by omega)).trans hg, rest⟩

/-- an append to what the call owns turns nothing below its own blocks -/
theorem below_base {w w' : World} {base k n : Nat} {e : TypeId} {v : Value} {xs : List Value} (hown : w.ownsRow base e k v n xs) (hB : base ≤ w.heap.size) (hg : w.grownBy w' v.ownBlock) : Below base w w' :=
  (Below.refl _ _).grown hg hB (fun j hj => (World.ownsRow.lt hown j hj).1)

/-- behind an append to what the call owns nothing older has turned -/
theorem below_app {w w1 w2 : World} {base k n : Nat} {e : TypeId} {v : Value} {xs : List Value} (hb : Below w.heap.size w w1) (hB : w.heap.size ≤ base) (hown : w1.ownsRow base e k v n xs) (hg : w1.grownBy w2 v.ownBlock) : Below w.heap.size w w2 :=
  hb.grown hg hb.size (fun j hj => Nat.le_trans hB (World.ownsRow.lt hown j hj).1)

/-- a slice of one element of one cell that was just laid (what 'append(s, x)' makes of x) -/
theorem Sg.one (w : World) (e : TypeId) (u : Value) : Sg (w.alloc (.cells #[u] e)) (fun b => b = w.heap.size) 1 (.slice (some ⟨w.heap.size, 0, none⟩) 1 1) 1 [u] :=
  ⟨rfl, _, 1, rfl, Nat.le_refl _, fun _ => ⟨_, rfl, rfl, fun j x hj => by
    match j, hj with
    | 0, hj =>
      cases hj
      rw [Addr.add_lit, World.cell?_alloc_mark]
      rfl⟩⟩

end Go.Proofs.Ytbjbnjpdackloaa.S

namespace Go.Proofs.Ytbjbnjpdackloaa
open Go.RowKit

theorem ret_v {a b : Value} (h : a = b) : Ending.returned a = .returned b := by rw [h]
theorem v_bool {a b : Bool} (h : a = b) : Value.bool a = .bool b := by rw [h]
theorem below_two {w0 w1 w2 : World} (h1 : Below w0.heap.size w0 w1) (h2 : Below w1.heap.size w1 w2) : Below w0.heap.size w0 w2 := h1.trans (h2.mono h1.size)
theorem bytes_eta (s : ByteArray) : (⟨s.data.toList.toArray⟩ : ByteArray) = s := by cases s; simp

def bytesV (l : List UInt8) : List Value := l.map fun c => .int .u8 (c.toNat : Int)
def strV (l : List (List UInt8)) : List Value := l.map fun s => .string ⟨s.toArray⟩
def intV (l : List Nat) : List Value := l.map fun (n : Nat) => .int .i64 (n : Int)
def boolV (l : List Bool) : List Value := l.map fun b => .bool b

theorem bytesV_length (l : List UInt8) : (bytesV l).length = l.length := by simp [bytesV]
theorem bytesV_append (a b : List UInt8) : bytesV (a ++ b) = bytesV a ++ bytesV b := by simp [bytesV]
theorem bytesV_one (l : List UInt8) : ∀ u ∈ bytesV l, u.oneCell' = true := by
  intro u hu; simp [bytesV] at hu; obtain ⟨c, _, rfl⟩ := hu; rfl
theorem bytesV_at (l : List UInt8) (j : Nat) (h : j < l.length) : (bytesV l)[j]? = some (.int .u8 (l[j].toNat : Int)) := by simp [bytesV, h]
theorem strV_length (l : List (List UInt8)) : (strV l).length = l.length := by simp [strV]
theorem strV_append (a b : List (List UInt8)) : strV (a ++ b) = strV a ++ strV b := by simp [strV]
theorem strV_one (l : List (List UInt8)) : ∀ u ∈ strV l, u.oneCell' = true := by
  intro u hu; simp [strV] at hu; obtain ⟨c, _, rfl⟩ := hu; rfl
theorem strV_at (l : List (List UInt8)) (j : Nat) (h : j < l.length) : (strV l)[j]? = some (.string ⟨l[j].toArray⟩) := by simp [strV, h]
theorem strV_set (l : List (List UInt8)) (j : Nat) (s : List UInt8) : strV (l.set j s) = (strV l).set j (.string ⟨s.toArray⟩) := by rw [strV, List.map_set]; rfl
theorem intV_length (l : List Nat) : (intV l).length = l.length := by simp [intV]
theorem intV_append (a b : List Nat) : intV (a ++ b) = intV a ++ intV b := by simp [intV]
theorem intV_one (l : List Nat) : ∀ u ∈ intV l, u.oneCell' = true := by
  intro u hu; simp [intV] at hu; obtain ⟨c, _, rfl⟩ := hu; rfl
theorem intV_at (l : List Nat) (j : Nat) (h : j < l.length) : (intV l)[j]? = some (.int .i64 (l[j] : Int)) := by simp [intV, h]
theorem boolV_length (l : List Bool) : (boolV l).length = l.length := by simp [boolV]
theorem boolV_append (a b : List Bool) : boolV (a ++ b) = boolV a ++ boolV b := by simp [boolV]
theorem boolV_one (l : List Bool) : ∀ u ∈ boolV l, u.oneCell' = true := by
  intro u hu; obtain ⟨c, _, rfl⟩ := List.mem_map.1 hu; rfl
theorem boolV_at (l : List Bool) (j : Nat) (h : j < l.length) : (boolV l)[j]? = some (.bool l[j]) := by simp [boolV, h]

/-- the slice v holds the bytes l (the strings, the numbers, the bools l) -/
abbrev SlB (w : World) (F : Nat → Prop) (v : Value) (l : List UInt8) : Prop := S.Sg w F 1 v l.length (bytesV l)
abbrev SlS (w : World) (F : Nat → Prop) (v : Value) (l : List (List UInt8)) : Prop := S.Sg w F 1 v l.length (strV l)
abbrev SlI (w : World) (F : Nat → Prop) (v : Value) (l : List Nat) : Prop := S.Sg w F 1 v l.length (intV l)
abbrev SlT (w : World) (F : Nat → Prop) (v : Value) (l : List Bool) : Prop := S.Sg w F 1 v l.length (boolV l)

theorem info_el {P : Program} {t e : TypeId} {z : Value} {b : Nat} (ht : P.underlying t = some (.slice e)) (h : (P.info? e).map (fun i => (i.zero, i.size, i.bytes)) = some (some z, 1, b)) (hz : z.cells.size = 1) : S.El P t e 1 b := by
  obtain ⟨i0, hi, hz0, hz1, hz2⟩ := info_parts h
  exact ⟨ht, ⟨i0, z, hi, hz0, hz1, hz2, hz⟩, by decide⟩

/-- 'string(b)' of what the call owns -/
theorem conv_own {w : World} {B : Nat} {v : Value} {l : List UInt8} (h : w.ownsRow B 5 1 v l.length (bytesV l)) :
    (convert 37 9 v).run Try.prog w = .ok (.string ⟨l.toArray⟩) w := by
  have h0 := h
  rcases h.2 with ⟨rfl, h1⟩ | ⟨g, cap, cur, rfl, _⟩
  · obtain rfl : l = [] := List.length_eq_zero_iff.1 h1
    exact run_convert_bytes_nil (P := Try.prog) w 37 5 Try.underlying37 Try.underlying5 0 0 9 Try.underlying9
  · refine run_convert_bytes_back (P := Try.prog) w 37 9 5 ⟨g, 0, none⟩ cap l Try.underlying37 Try.underlying5 Try.underlying9 fun j hj => ?_
    rw [Addr.add_lit, Nat.zero_add, h0.cellAt j (by omega)]
    simp [bytesV, hj]

/-- 'string(b)' of whatever slice of bytes -/
theorem conv_sg {w : World} {F : Nat → Prop} {v : Value} {l : List UInt8} (h : SlB w F v l) : (convert 37 9 v).run Try.prog w = .ok (.string ⟨l.toArray⟩) w := by
  obtain ⟨_, A, cap, rfl, hc, hx⟩ := h
  cases A with
  | none =>
    cases l with
    | nil => exact run_convert_bytes_nil (P := Try.prog) w 37 5 Try.underlying37 Try.underlying5 0 cap 9 Try.underlying9
    | cons c r => obtain ⟨a, e, _⟩ := hx (by simp); cases e
  | some a =>
    refine run_convert_bytes_back (P := Try.prog) w 37 9 5 a cap l Try.underlying37 Try.underlying5 Try.underlying9 fun j hj => ?_
    obtain ⟨a', e, _, hx⟩ := hx (by omega)
    cases e
    exact hx j _ (bytesV_at l j hj)

theorem elB : S.El Try.prog 37 5 1 1 := info_el (z := .int .u8 0) Try.underlying37 (by kernel_rfl) rfl

end Go.Proofs.Ytbjbnjpdackloaa

namespace Go.Proofs.Ytbjbnjpdackloaa.M

/-- a number's lowest bytes, so many, the highest first -/
def hiB : Nat → Nat → List UInt8
  | 0, _ => []
  | k + 1, n => hiB k (n / 256) ++ [UInt8.ofNat (n % 256)]

theorem hiB_len (k n : Nat) : (hiB k n).length = k := by
  induction k generalizing n with
  | zero => rfl
  | succ k ih => simp [hiB, ih]

theorem hiB_cons (k n : Nat) : hiB (k + 1) n = UInt8.ofNat (n / 256 ^ k % 256) :: hiB k n := by
  induction k generalizing n with
  | zero => simp [hiB]
  | succ k ih =>
    rw [hiB, ih (n / 256), hiB, Nat.div_div_eq_div_mul, Nat.pow_succ, Nat.mul_comm (256 ^ k) 256]
    simp

theorem hiB_mod (k n : Nat) : hiB k (n % 256 ^ k) = hiB k n := by
  induction k generalizing n with
  | zero => rfl
  | succ k ih =>
    have h1 : n % 256 ^ (k + 1) / 256 = n / 256 % 256 ^ k := by
      rw [Nat.pow_succ, Nat.mul_comm, Nat.mod_mul_right_div_self]
    have h2 : n % 256 ^ (k + 1) % 256 = n % 256 := by
      rw [Nat.pow_succ, Nat.mul_comm, Nat.mod_mul_right_mod]
    rw [hiB, hiB, h1, h2, ih]

/-- the number of bytes -/
def num (l : List UInt8) : Nat := l.foldl (fun a b => 256 * a + b.toNat) 0

theorem num_snoc (l : List UInt8) (c : UInt8) : num (l ++ [c]) = 256 * num l + c.toNat := by simp [num]

theorem num_nil : num [] = 0 := rfl

theorem num_aux (l : List UInt8) : ∀ r : List UInt8, l.reverse = r → num l < 256 ^ l.length := by
  intro r
  induction r generalizing l with
  | nil => intro h; have : l = [] := by simpa using h
           subst this; simp [num]
  | cons c r ih =>
    intro h
    obtain ⟨p, rfl⟩ : ∃ p, l = p ++ [c] := ⟨r.reverse, by rw [← List.reverse_reverse l, h]; simp⟩
    have := ih p (by simpa using h)
    rw [num_snoc, List.length_append, List.length_singleton, Nat.pow_succ]
    have := c.toNat_lt
    omega

theorem num_lt (l : List UInt8) : num l < 256 ^ l.length := num_aux l _ rfl

theorem num_hiB (k n : Nat) : num (hiB k n) = n % 256 ^ k := by
  induction k generalizing n with
  | zero => simp [hiB, num, Nat.mod_one]
  | succ k ih =>
    rw [hiB, num_snoc, ih, Nat.pow_succ, Nat.mul_comm (256 ^ k) 256, Nat.mod_mul]
    have : (UInt8.ofNat (n % 256)).toNat = n % 256 := by simp
    omega

theorem hiB_num_aux (l : List UInt8) : ∀ r : List UInt8, l.reverse = r → hiB l.length (num l) = l := by
  intro r
  induction r generalizing l with
  | nil => intro h; have : l = [] := by simpa using h
           subst this; rfl
  | cons c r ih =>
    intro h
    obtain ⟨p, rfl⟩ : ∃ p, l = p ++ [c] := ⟨r.reverse, by rw [← List.reverse_reverse l, h]; simp⟩
    have h1 := ih p (by simpa using h)
    have hc := c.toNat_lt
    rw [num_snoc, List.length_append, List.length_singleton, hiB]
    have e1 : (256 * num p + c.toNat) / 256 = num p := by omega
    have e2 : (256 * num p + c.toNat) % 256 = c.toNat := by omega
    rw [e1, e2, h1]
    simp

theorem hiB_num (l : List UInt8) : hiB l.length (num l) = l := hiB_num_aux l _ rfl

/-- of two numbers the lower one's bytes are the lower ones -/
theorem hiB_less (k n m : Nat) : Op.bytesLess (hiB k n) (hiB k m) = decide (n % 256 ^ k < m % 256 ^ k) := by
  induction k generalizing n m with
  | zero => simp [hiB, Op.bytesLess, Nat.mod_one]
  | succ k ih =>
    rw [hiB_cons, hiB_cons, Op.bytesLess, ih, Bool.eq_iff_iff]
    rw [Nat.pow_succ, Nat.mod_mul, Nat.mod_mul (x := m)]
    have hn : n / 256 ^ k % 256 < 256 := Nat.mod_lt _ (by decide)
    have hm : m / 256 ^ k % 256 < 256 := Nat.mod_lt _ (by decide)
    have hp : 0 < 256 ^ k := Nat.pow_pos (by decide)
    have hn' : n % 256 ^ k < 256 ^ k := Nat.mod_lt _ hp
    have hm' : m % 256 ^ k < 256 ^ k := Nat.mod_lt _ hp
    generalize n / 256 ^ k % 256 = a at *
    generalize m / 256 ^ k % 256 = b at *
    generalize n % 256 ^ k = c at *
    generalize m % 256 ^ k = d at *
    generalize 256 ^ k = p at *
    have ea : (UInt8.ofNat a < UInt8.ofNat b) ↔ a < b := by
      rw [UInt8.lt_iff_toNat_lt]; simp [Nat.mod_eq_of_lt hn, Nat.mod_eq_of_lt hm]
    have eb : (UInt8.ofNat a = UInt8.ofNat b) ↔ a = b := by
      rw [← UInt8.toNat_inj]; simp [Nat.mod_eq_of_lt hn, Nat.mod_eq_of_lt hm]
    simp only [Bool.or_eq_true, decide_eq_true_eq, Bool.and_eq_true, beq_iff_eq, ea, eb]
    constructor
    · rintro (h | ⟨rfl, h⟩)
      · have : p * (a + 1) ≤ p * b := Nat.mul_le_mul_left p h
        rw [Nat.mul_add, Nat.mul_one] at this
        omega
      · omega
    · intro h
      rcases Nat.lt_trichotomy a b with g | g | g
      · exact Or.inl g
      · subst g; exact Or.inr ⟨rfl, by omega⟩
      · have : p * (b + 1) ≤ p * a := Nat.mul_le_mul_left p g
        rw [Nat.mul_add, Nat.mul_one] at this
        omega

theorem hiB_inj {k n m : Nat} (h : hiB k n = hiB k m) : n % 256 ^ k = m % 256 ^ k := by
  rw [← num_hiB, ← num_hiB, h]

/-- a text's bytes, each zero marked -/
def esc : List UInt8 → List UInt8
  | [] => []
  | c :: r => if c = 0 then 0 :: 255 :: esc r else c :: esc r

theorem esc_append (a b : List UInt8) : esc (a ++ b) = esc a ++ esc b := by
  induction a with
  | nil => rfl
  | cons c r ih => simp only [List.cons_append, esc, ih]; split <;> simp

theorem esc_snoc_zero (a : List UInt8) (c : UInt8) (h : c = 0) : esc (a ++ [c]) = esc a ++ [c] ++ [255] := by
  rw [esc_append]; subst h; simp [esc]

theorem esc_snoc (a : List UInt8) (c : UInt8) (h : ¬ c = 0) : esc (a ++ [c]) = esc a ++ [c] := by
  rw [esc_append]; simp [esc, h]

theorem esc_len (a : List UInt8) : a.length ≤ (esc a).length ∧ (esc a).length ≤ 2 * a.length := by
  induction a with
  | nil => simp [esc]
  | cons c r ih => simp only [esc]; split <;> simp only [List.length_cons] <;> omega

def text (l : List UInt8) : List UInt8 := esc l ++ [0, 1]

theorem text_len (a : List UInt8) : (text a).length ≤ 2 * a.length + 2 := by
  have := esc_len a; simp [text]; omega

/-- what a string begins with: what is gathered so far, whether the byte ahead was a mark, what is left -/
def ttake : List UInt8 → Bool → List UInt8 → Option (List UInt8 × List UInt8)
  | _, _, [] => none
  | acc, true, c :: r => if c = 1 then some (acc, r) else if c = 255 then ttake (acc ++ [0]) false r else none
  | acc, false, c :: r => if c = 0 then ttake acc true r else ttake (acc ++ [c]) false r

theorem ttake_text (acc l x : List UInt8) : ttake acc false (esc l ++ 0 :: 1 :: x) = some (acc ++ l, x) := by
  induction l generalizing acc with
  | nil => simp [esc, ttake]
  | cons c r ih =>
    simp only [esc]
    split
    · rename_i h; subst h; simp [ttake, ih]
    · rename_i h; simp [ttake, ih, h]

theorem ttake_back (s : List UInt8) : ∀ acc g h, (ttake acc false s = some (g, h) → ∃ t, g = acc ++ t ∧ s = esc t ++ 0 :: 1 :: h) ∧
    (ttake acc true s = some (g, h) → (g = acc ∧ s = 1 :: h) ∨ ∃ t, g = acc ++ 0 :: t ∧ s = 255 :: (esc t ++ 0 :: 1 :: h)) := by
  induction s with
  | nil => intro acc g h; simp [ttake]
  | cons c r ih =>
    intro acc g h
    constructor
    · intro e
      simp only [ttake] at e
      split at e
      · rename_i hc; subst hc
        rcases (ih acc g h).2 e with ⟨rfl, rfl⟩ | ⟨t, rfl, rfl⟩
        · exact ⟨[], by simp, by simp [esc]⟩
        · exact ⟨0 :: t, by simp, by simp [esc]⟩
      · rename_i hc
        obtain ⟨t, rfl, rfl⟩ := (ih (acc ++ [c]) g h).1 e
        exact ⟨c :: t, by simp, by simp [esc, hc]⟩
    · intro e
      simp only [ttake] at e
      split at e
      · rename_i hc; subst hc
        simp only [Option.some.injEq, Prod.mk.injEq] at e
        obtain ⟨rfl, rfl⟩ := e
        exact Or.inl ⟨rfl, rfl⟩
      · split at e
        · rename_i hc; subst hc
          obtain ⟨t, rfl, rfl⟩ := (ih (acc ++ [0]) g h).1 e
          exact Or.inr ⟨t, by simp, rfl⟩
        · cases e

theorem ttake_very {s g h : List UInt8} (e : ttake [] false s = some (g, h)) : text g ++ h = s := by
  obtain ⟨t, rfl, rfl⟩ := (ttake_back s [] g h).1 e
  simp [text]

theorem ttake_len {s g h : List UInt8} (e : ttake [] false s = some (g, h)) : g.length + h.length + 2 ≤ s.length := by
  obtain ⟨t, ht, rfl⟩ := (ttake_back s [] g h).1 e
  have h1 := esc_len t
  have h2 : g.length = t.length := by rw [ht]; simp
  simp; omega

/-- nothing that a text's string begins is one -/
theorem ttake_cut (l : List UInt8) : ∀ acc k, k < (esc l).length + 2 → ttake acc false ((esc l ++ [0, 1]).take k) = none := by
  induction l with
  | nil =>
    intro acc k hk
    match k, hk with
    | 0, _ => simp [ttake]
    | 1, _ => simp [esc, ttake]
    | k + 2, hk => simp [esc] at hk; omega
  | cons c r ih =>
    intro acc k hk
    simp only [esc] at hk ⊢
    by_cases hc : c = 0
    · subst hc
      simp only [if_true, List.cons_append, List.length_cons] at hk ⊢
      match k, hk with
      | 0, _ => simp [ttake]
      | 1, _ => simp [ttake]
      | k + 2, hk => simp [ttake]; have := ih (acc ++ [0]) k (by omega); simpa using this
    · simp only [hc, if_false, List.cons_append, List.length_cons] at hk ⊢
      match k, hk with
      | 0, _ => simp [ttake]
      | k + 1, hk => simp [ttake, hc]; have := ih (acc ++ [c]) k (by omega); simpa using this

theorem text_cut (l : List UInt8) (k : Nat) (h : k < (text l).length) : ttake [] false ((text l).take k) = none :=
  ttake_cut l [] k (by simpa [text] using h)

theorem less_cons_same (c : UInt8) (a b : List UInt8) : Op.bytesLess (c :: a) (c :: b) = Op.bytesLess a b := by
  have : ¬ c < c := by rw [UInt8.lt_iff_toNat_lt]; omega
  simp [Op.bytesLess, this]

theorem less_cons_ne {c d : UInt8} (h : ¬ c = d) (a b : List UInt8) : Op.bytesLess (c :: a) (d :: b) = decide (c < d) := by
  simp [Op.bytesLess, h]

theorem zero_less {d : UInt8} (h : ¬ d = 0) : (0 : UInt8) < d := by
  rw [UInt8.lt_iff_toNat_lt]
  have : d.toNat ≠ 0 := fun e => h (by rw [← UInt8.toNat_inj]; simpa using e)
  simp; omega

/-- texts' order, whatever stands behind -/
theorem esc_less (a : List UInt8) : ∀ b x y, Op.bytesLess (esc a ++ 0 :: 1 :: x) (esc b ++ 0 :: 1 :: y) = if a = b then Op.bytesLess x y else Op.bytesLess a b := by
  induction a with
  | nil =>
    intro b x y
    cases b with
    | nil => simp [esc, less_cons_same]
    | cons d t =>
      simp only [esc, List.nil_append]
      by_cases hd : d = 0
      · subst hd; simp [less_cons_same]; rw [less_cons_ne (by decide)]; simp [Op.bytesLess]
      · simp only [hd, if_false, List.cons_append]; rw [less_cons_ne (fun e => hd e.symm)]; simp [Op.bytesLess, zero_less hd]
  | cons c r ih =>
    intro b x y
    cases b with
    | nil =>
      simp only [esc, List.nil_append]
      by_cases hd : c = 0
      · subst hd; simp [less_cons_same]; rw [less_cons_ne (by decide)]; simp [Op.bytesLess]
      · simp only [hd, if_false, List.cons_append]; rw [less_cons_ne hd]; simp [Op.bytesLess]
    | cons d t =>
      by_cases hcd : c = d
      · subst hcd
        simp only [esc, List.cons.injEq, true_and, less_cons_same]
        rw [← ih t x y]
        split <;> simp [less_cons_same]
      · rw [if_neg (by simp [hcd]), less_cons_ne hcd]
        simp only [esc]
        by_cases hc : c = 0
        · subst hc
          have hd : ¬ d = 0 := fun e => hcd e.symm
          simp only [hd, if_true, if_false, List.cons_append]
          rw [less_cons_ne hcd]
        · by_cases hd : d = 0
          · subst hd; simp only [hc, if_true, if_false, List.cons_append]; rw [less_cons_ne hc]
          · simp only [hc, hd, if_false, List.cons_append]; rw [less_cons_ne hcd]

theorem text_less (a b x y : List UInt8) : Op.bytesLess (text a ++ x) (text b ++ y) = if a = b then Op.bytesLess x y else Op.bytesLess a b := by
  simpa [text] using esc_less a b x y

theorem less_irrefl (a : List UInt8) : Op.bytesLess a a = false := by
  induction a with
  | nil => rfl
  | cons c r ih => rw [less_cons_same, ih]

theorem text_less' (a b : List UInt8) : Op.bytesLess (text a) (text b) = Op.bytesLess a b := by
  have := text_less a b [] []
  simp only [List.append_nil] at this
  rw [this]
  split
  · rename_i h; subst h; rw [less_irrefl, less_irrefl]
  · rfl

end Go.Proofs.Ytbjbnjpdackloaa.M

namespace Go.Proofs.Ytbjbnjpdackloaa
open Go.RowKit

theorem take_snoc (s : ByteArray) (k : Nat) (h : k < s.size) : s.data.toList.take (k + 1) = s.data.toList.take k ++ [s[k]] := by
  rw [List.take_succ_eq_append_getElem (by simpa using h)]; rfl

theorem num_take_succ (s : ByteArray) (k : Nat) (h : k < s.size) : M.num (s.data.toList.take (k + 1)) = 256 * M.num (s.data.toList.take k) + s[k].toNat := by
  rw [take_snoc s k h, M.num_snoc]

theorem num_take_lt (s : ByteArray) (k : Nat) (h : k ≤ 7) : M.num (s.data.toList.take k) < 72057594037927936 := by
  have h1 := M.num_lt (s.data.toList.take k)
  have h2 : (s.data.toList.take k).length ≤ 7 := by simp; omega
  have h3 : 256 ^ (s.data.toList.take k).length ≤ 256 ^ 7 := Nat.pow_le_pow_right (by decide) h2
  have h4 : 256 ^ 7 = 72057594037927936 := by decide
  omega

set_option maxHeartbeats 400000 in
theorem number_any (s : ByteArray) (w : World) (hs : s.size ≤ 8) :
    Calls Try.prog 58 #[.string s] w fun e w' => e = .returned (.int .u64 (M.num s.data.toList : Nat)) ∧ w = w' := by
  go_enter Try.func58, Try.ntmps58
  go_wp2
  go_loop [3, 4] (fun n i => ∃ k : Nat, k ≤ s.size ∧ i = .int .i64 k ∧ n = .int .u64 (M.num (s.data.toList.take k) : Nat)) (fun _ i => s.size - (intOf i).toNat)
  case atStart => exact ⟨0, Nat.zero_le _, rfl, rfl⟩
  case round =>
    obtain ⟨k, hk, rfl, rfl⟩ := hrel
    by_cases hlt : k < s.size
    · have hb := num_take_lt s k (by omega)
      have hc := s[k].toNat_lt
      have HS := Lib.hid (num_take_succ s k hlt)
      go_wp2
      go_round
      case rel => exact ⟨k + 1, by omega, by go_num, by rw [HS.out]; go_num⟩
      case measure => simp [intOf]; omega
    · go_wp2
      go_ret
      exact ⟨ret_v (by rw [List.take_of_length_le (by simp; omega)]; rfl), rfl⟩

theorem bcell {W w1 : World} (hb : Below W.heap.size W w1) : (∀ b o, b < W.heap.size → w1.cell? ⟨b, o, none⟩ = W.cell? ⟨b, o, none⟩) ∧ (∀ b o, b < W.heap.size → w1.frozen? ⟨b, o, none⟩ = W.frozen? ⟨b, o, none⟩) :=
  ⟨fun b o h => hb.cell (p := ⟨b, o, none⟩) h, fun b o h => hb.frozen (p := ⟨b, o, none⟩) h⟩

theorem conv_one (W : World) (b : Nat) (c : UInt8) (h : W.cell? ⟨b, 0, none⟩ = some (.int .u8 (c.toNat : Int))) :
    (convert 37 9 (.slice (some ⟨b, 0, none⟩) 1 1)).run Try.prog W = .ok (.string ⟨#[c]⟩) W := by
  refine run_convert_bytes_back (P := Try.prog) W 37 9 5 ⟨b, 0, none⟩ 1 [c] Try.underlying37 Try.underlying5 Try.underlying9 fun j hj => ?_
  match j, hj with
  | 0, _ => simpa [Addr.add] using h

theorem ba_append (a b : List UInt8) : (⟨a.toArray⟩ : ByteArray) ++ ⟨b.toArray⟩ = ⟨(a ++ b).toArray⟩ := by
  apply ByteArray.ext
  simp [ByteArray.data_append]

theorem below_ca {w w' : World} {o : Obj} (hb : Below w.drew.heap.size w.drew w') : Below w.heap.size w (w'.alloc o) := by
  have h : Below w.heap.size w w' := ((Below.refl _ w).drew).trans hb
  exact h.alloc h.size o

theorem below_ac {w w' : World} {o : Obj} (hb : Below (w.alloc o).drew.heap.size (w.alloc o).drew w') : Below w.heap.size w w' :=
  (((Below.refl _ w).alloc (Nat.le_refl _) o).drew).trans (hb.mono (by simp))

theorem v_string {a b : ByteArray} (h : a = b) : Value.string a = .string b := by rw [h]

set_option maxHeartbeats 400000 in
theorem bytes_any (m : Nat) : ∀ (x y : Int) (w : World), 0 ≤ x → x ≤ 18446744073709551615 → 0 ≤ y → y ≤ 8 → y.toNat = m →
    Calls Try.prog 63 #[.int .u64 x, .int .i64 y] w fun e w' => e = .returned (.string ⟨(M.hiB m x.toNat).toArray⟩) ∧ Below w.heap.size w w' := by
  induction m with
  | zero =>
    intro x y w h0 h1 h2 h3 h4
    obtain rfl : y = 0 := by omega
    go_enter Try.func63, Try.ntmps63
    go_wp2
    go_ret
    exact ⟨rfl, Below.refl _ _⟩
  | succ m ih =>
    intro x y w h0 h1 h2 h3 h4
    have hy : 1 ≤ y := by omega
    obtain ⟨x1, hx1⟩ : ∃ x1 : Int, x1 = x / 256 := ⟨_, rfl⟩
    obtain ⟨c, hc⟩ : ∃ c : UInt8, c = UInt8.ofNat (x.toNat % 256) := ⟨_, rfl⟩
    obtain ⟨y1, hy1⟩ : ∃ y1 : Int, y1 = y - 1 := ⟨_, rfl⟩
    have e1 : IntKind.u64.wrap (x.tdiv 256) = x1 := by rw [IntKind.wrap_u64, hx1, Int.tdiv_eq_ediv_of_nonneg h0]; omega
    have e2 : IntKind.i64.wrap (y - 1) = y1 := by rw [IntKind.wrap_i64, hy1]; omega
    have e3 : IntKind.u8.wrap (x.tmod 256) = (c.toNat : Int) := by rw [IntKind.wrap_u8, hc, Int.tmod_eq_emod_of_nonneg h0]; simp; omega
    have hres : M.hiB (m + 1) x.toNat = M.hiB m x1.toNat ++ [c] := by
      rw [M.hiB, hc, hx1]; congr 2; omega
    have IH := Lib.hid (fun W => ih x1 y1 W (by omega) (by omega) (by omega) (by omega) (by omega))
    have HR := Lib.hid hres
    have hm7 : m ≤ 7 := by omega
    have hy0 : (y == 0) = false := by rw [beq_eq_false_iff_ne]; omega
    clear ih h4 hres hx1 hc hy1 h0 h1 h2 h3 hy
    have hcv := fun W b => conv_one W b c
    have hlen := M.hiB_len m x1.toNat
    go_enter Try.func63, Try.ntmps63
    go_wp2_with fail
    go_region_with (go_at_call 63; refine (IH.out _).mono ?_; rintro e w' ⟨rfl, hb⟩; obtain ⟨hcl, hf⟩ := bcell hb)
    all_goals (try go_wp2)
    all_goals go_ret
    all_goals refine ⟨ret_v (v_string ((ba_append _ [c]).trans (by rw [HR.out]))), ?_⟩
    all_goals first | exact below_ca hb | exact below_ac hb

theorem extract_end (s : ByteArray) (k : Nat) : s.extract k s.size = ⟨(s.data.toList.drop k).toArray⟩ := by
  apply ByteArray.ext
  apply Array.ext'
  rw [ByteArray.data_extract, Array.toList_extract]
  show List.extract s.data.toList k s.size = _
  rw [List.extract_eq_take_drop]
  exact List.take_of_length_le (by simp)

theorem rnum_any (n : Nat) (w : World) (h : n < 4294967296) :
    Calls Try.prog 54 #[.int .u32 n] w fun e w' => e = .returned (.string ⟨(M.hiB 4 n).toArray⟩) ∧ Below w.heap.size w w' := by
  go_enter Try.func54, Try.ntmps54
  go_wp2_with fail
  refine (bytes_any 4 n 4 w (by omega) (by omega) (by decide) (by decide) rfl).mono ?_
  rintro e w' ⟨rfl, hb⟩
  go_wp2
  go_ret
  exact ⟨rfl, hb⟩

def tnV (l : List UInt8) : Value :=
  if l.length < 4 then .tuple #[.int .u32 0, .string ⟨#[]⟩, .int .i64 2] else .tuple #[.int .u32 (M.num (l.take 4) : Nat), .string ⟨(l.drop 4).toArray⟩, .int .i64 0]

theorem tnV_no {s : ByteArray} (h : s.size < 4) : tnV s.data.toList = .tuple #[.int .u32 0, .string ⟨#[]⟩, .int .i64 2] := by
  rw [tnV, if_pos (by simpa using h)]

theorem tnV_yes {s : ByteArray} (h : ¬ s.size < 4) : tnV s.data.toList = .tuple #[.int .u32 (M.num (s.data.toList.take 4) : Nat), .string (s.extract 4 s.size), .int .i64 0] := by
  rw [tnV, if_neg (by simpa using h), extract_end]

theorem num_take4_lt (l : List UInt8) : M.num (l.take 4) < 4294967296 := by
  have h1 := M.num_lt (l.take 4)
  have h3 : 256 ^ (l.take 4).length ≤ 256 ^ 4 := Nat.pow_le_pow_right (by decide) (by simp; omega)
  have h4 : 256 ^ 4 = 4294967296 := by decide
  omega

theorem v_tup {k : IntKind} {a b : Int} {x y : Value} (h : a = b) : Value.tuple #[.int k a, x, y] = .tuple #[.int k b, x, y] := by rw [h]

theorem tn_fin {s : ByteArray} (h : ¬ s.size < 4) : tnV s.data.toList = .tuple #[.int .u32 (IntKind.u32.wrap (M.num (s.data.toList.take 4) : Nat)), .string (s.extract 4 s.size), .int .i64 0] := by
  have hn := num_take4_lt s.data.toList
  rw [tnV_yes h]
  exact v_tup (by rw [IntKind.wrap_u32]; omega)

theorem rtakeNum_any (s : ByteArray) (w : World) (_hl : s.size ≤ maxLen) :
    Calls Try.prog 50 #[.string s] w fun e w' => e = .returned (tnV s.data.toList) ∧ Below w.heap.size w w' := by
  by_cases h : s.size < 4
  · rw [tnV_no h]
    go_enter Try.func50, Try.ntmps50
    go_wp2
    go_ret3
    exact ⟨rfl, Below.refl _ _⟩
  · go_enter Try.func50, Try.ntmps50
    go_wp2_with fail
    go_region_with (go_at_call 58; refine (number_any _ _ ?_).mono ?_; (simp; omega); rintro e w' ⟨rfl, rfl⟩)
    all_goals (try go_wp2)
    all_goals go_ret3
    all_goals exact ⟨ret_v (tn_fin h).symm, (Below.refl _ _).drew⟩

end Go.Proofs.Ytbjbnjpdackloaa

namespace Go.Proofs.Ytbjbnjpdackloaa
open Go.RowKit

theorem or8 (n c : Nat) (hn : n < 72057594037927936) (hc : c < 256) : bits .or .u64 ((n : Int) * 256) (c : Int) = ((256 * n + c : Nat) : Int) := by
  rw [show ((n : Int) * 256) = ((n * 256 : Nat) : Int) by simp, u64_or_nat _ _ (by omega) (by omega), nat_join 8 (n * 256) c (by omega) (by omega), Nat.mul_comm]

theorem takeHF_no (s : ByteArray) (m : Nat) (w : World) (_hm : m ≤ 8) (hs : s.size < m) :
    Calls Try.prog 65 #[.string s, .int .i64 m] w fun e w' => e = .returned (.tuple #[.int .u64 0, .string ⟨#[]⟩, .int .i64 2]) ∧ w = w' := by
  go_enter Try.func65, Try.ntmps65
  go_wp2
  go_ret3
  exact ⟨rfl, rfl⟩

set_option maxHeartbeats 400000 in
theorem takeHF_yes (s : ByteArray) (m : Nat) (w : World) (hm : m ≤ 8) (hs : m ≤ s.size) (hl : s.size ≤ maxLen) :
    Calls Try.prog 65 #[.string s, .int .i64 m] w fun e w' => e = .returned (.tuple #[.int .u64 (M.num (s.data.toList.take m) : Nat), .string (s.extract m s.size), .int .i64 0]) ∧ Below w.heap.size w w' := by
  unfold maxLen at hl
  go_enter Try.func65, Try.ntmps65
  go_wp2
  go_loop [7, 14] (fun n i => ∃ k : Nat, k ≤ m ∧ i = .int .i64 k ∧ n = .int .u64 (M.num (s.data.toList.take k) : Nat)) (fun _ i => m - (intOf i).toNat)
  case atStart => exact ⟨0, Nat.zero_le _, rfl, rfl⟩
  case round =>
    obtain ⟨k, hk, rfl, rfl⟩ := hrel
    by_cases hlt : k < m
    · have hks : k < s.size := by omega
      have hb := num_take_lt s k (by omega)
      have hc := s[k].toNat_lt
      have HS := Lib.hid (num_take_succ s k hks)
      have ho := or8 _ _ hb hc
      go_wp2
      go_round
      case rel => exact ⟨k + 1, by omega, by go_num, by rw [HS.out]; go_num⟩
      case measure => simp [intOf]; omega
    · obtain rfl : k = m := by omega
      go_wp2
      go_region
      all_goals (try go_wp2)
      all_goals go_ret3
      all_goals exact ⟨rfl, (Below.refl _ _).drew⟩

theorem Try.info5 : (Try.prog.info? 5).map (fun i => (i.zero, i.size, i.bytes)) = some (some (.int .u8 0), 1, 1) := by kernel_rfl

/-- what the slice holds behind k rounds -/
def hfAt (m n k : Nat) : List UInt8 := List.replicate (m - k) 0 ++ M.hiB k n

theorem hfAt_length {m n k : Nat} (h : k ≤ m) : (hfAt m n k).length = m := by simp [hfAt, M.hiB_len]; omega

theorem hfAt_set {m n k : Nat} (h : k < m) : (hfAt m n k).set (m - 1 - k) (UInt8.ofNat (n / 256 ^ k % 256)) = hfAt m n (k + 1) := by
  obtain ⟨d, rfl⟩ : ∃ d, m = k + 1 + d := ⟨m - (k + 1), by omega⟩
  have e1 : k + 1 + d - 1 - k = d := by omega
  have e2 : k + 1 + d - k = d + 1 := by omega
  have e3 : k + 1 + d - (k + 1) = d := by omega
  rw [hfAt, hfAt, e1, e2, e3, M.hiB_cons, List.set_append_left _ _ (by simp), List.replicate_succ', List.set_append_right _ _ (by simp)]
  simp

theorem hf_step {w : World} {B m n k q : Nat} {v : Value} (h : k < m) (hq : q = n / 256 ^ k)
    (hown : w.ownsRow B 5 1 v m ((bytesV (hfAt m n k)).set (m - 1 - k) (.int .u8 ((q : Int) % 256)))) :
    w.ownsRow B 5 1 v m (bytesV (hfAt m n (k + 1))) := by
  rw [← hfAt_set h]
  have e : bytesV ((hfAt m n k).set (m - 1 - k) (UInt8.ofNat (n / 256 ^ k % 256))) = (bytesV (hfAt m n k)).set (m - 1 - k) (.int .u8 ((q : Int) % 256)) := by
    rw [bytesV, List.map_set]
    subst hq
    congr 1
    simp
  rw [e]; exact hown

set_option maxHeartbeats 400000 in
theorem highestFirst_any (n m : Nat) (w : World) (_hn : n < 18446744073709551616) (hm : m ≤ 8) :
    Calls Try.prog 61 #[.int .u64 n, .int .i64 m] w fun e w' => e = .returned (.string ⟨(M.hiB m n).toArray⟩) ∧ Below w.heap.size w w' := by
  obtain ⟨i0, hi, hz0, hz1, hz2⟩ := info_parts Try.info5
  go_enter Try.func61, Try.ntmps61
  go_wp2_with (at_make; refine wpList_make_full _ rfl _ _ 37 rfl w.heap.size 5 i0 (.int .u8 0) 1 Try.underlying37 hi hz0 hz1 _ _ _ _ m rfl rfl (by omega) (by omega) ?b1 ?b2 ?b3 ?_)
  case b1 => rw [hz2]; omega
  case b2 => unfold maxLen; omega
  case b3 => exact Nat.le_refl _
  intro w1 hown0 hgrow0
  have hown1 : w1.ownsRow w.heap.size 5 1 (.slice (some ⟨w.heap.size, 0, none⟩) m m) m (bytesV (hfAt m n 0)) := by
    have e : (madeCells #[Value.int .u8 0] m).toList = bytesV (hfAt m n 0) := by
      rw [toList_madeCells_one]
      simp [hfAt, bytesV, M.hiB]
    rw [← e]; exact hown0
  have hb1 : Below w.heap.size w w1 := (Below.refl _ _).grown hgrow0 (Nat.le_refl _) (fun k hk => by cases hk)
  clear hown0 hgrow0
  go_wp2_with fail
  go_loopw [0, 10] (fun v i wr => ∃ k q : Nat, k ≤ m ∧ i = .int .i64 k ∧ v = .int .u64 q ∧ q = n / 256 ^ k ∧ wr.ownsRow w.heap.size 5 1 (.slice (some ⟨w.heap.size, 0, none⟩) m m) m (bytesV (hfAt m n k)) ∧ Below w.heap.size w wr) (fun _ i _ => m - (intOf i).toNat)
  case atStart => exact ⟨0, n, Nat.zero_le _, rfl, rfl, by simp, hown1, hb1⟩
  case round =>
    clear hown1 hb1
    obtain ⟨k, q, hk, rfl, rfl, hq, hown, hb⟩ := hrel
    have hqn : q ≤ n := by rw [hq]; exact Nat.div_le_self _ _
    have HQ := Lib.hid hq
    clear hq
    by_cases hlt : k < m
    · have hf := hown.frozenAt (m - 1 - k)
      obtain ⟨u, hu⟩ : ∃ u, wr.cell? ⟨w.heap.size, m - 1 - k, none⟩ = some (.int .u8 u) := by
        rw [hown.cellAt (m - 1 - k) (by omega)]
        exact ⟨_, bytesV_at _ _ (by rw [hfAt_length hk]; omega)⟩
      have hst := hown.stored (m - 1 - k) (.int .u8 ((q : Int) % 256))
      have HN := Lib.hid (hf_step hlt HQ.out hst.1)
      have HB := Lib.hid (hb.grown hst.2 hb.size (fun j hj => by cases hj; exact Nat.le_refl _))
      clear hst hown hb
      go_wp2
      go_roundw
      case rel => exact ⟨k + 1, q / 256, by omega, by go_num, by go_num, by rw [HQ.out, Nat.pow_succ, Nat.div_div_eq_div_mul], HN.out, HB.out⟩
      case measure => simp [intOf]; omega
    · obtain rfl : k = m := by omega
      have hcv := conv_own (B := w.heap.size) (l := M.hiB k n) (v := .slice (some ⟨w.heap.size, 0, none⟩) k k) (w := wr) (by
        have e : hfAt k n k = M.hiB k n := by simp [hfAt]
        rw [← e, hfAt_length (Nat.le_refl _)]; exact hown)
      go_wp2
      go_ret
      exact ⟨rfl, hb⟩

theorem hf4 (n : Nat) (w : World) (h : n < 18446744073709551616) :
    Calls Try.prog 61 #[.int .u64 n, .int .i64 4] w fun e w' => e = .returned (.string ⟨(M.hiB 4 n).toArray⟩) ∧ Below w.heap.size w w' := highestFirst_any n 4 w h (by decide)

theorem num_any (n : Nat) (w : World) (h : n < 4294967296) :
    Calls Try.prog 52 #[.int .u32 n] w fun e w' => e = .returned (.string ⟨(M.hiB 4 n).toArray⟩) ∧ Below w.heap.size w w' := by
  go_enter Try.func52, Try.ntmps52
  go_wp2_with fail
  refine (hf4 n w (by omega)).mono ?_
  rintro e w' ⟨rfl, hb⟩
  go_wp2
  go_ret
  exact ⟨rfl, hb⟩

theorem thf4_no (s : ByteArray) (w : World) (hs : s.size < 4) :
    Calls Try.prog 65 #[.string s, .int .i64 4] w fun e w' => e = .returned (.tuple #[.int .u64 0, .string ⟨#[]⟩, .int .i64 2]) ∧ w = w' := takeHF_no s 4 w (by decide) hs

theorem thf4_yes (s : ByteArray) (w : World) (hs : 4 ≤ s.size) (hl : s.size ≤ maxLen) :
    Calls Try.prog 65 #[.string s, .int .i64 4] w fun e w' => e = .returned (.tuple #[.int .u64 (M.num (s.data.toList.take 4) : Nat), .string (s.extract 4 s.size), .int .i64 0]) ∧ Below w.heap.size w w' := takeHF_yes s 4 w (by decide) hs hl

theorem takeNum_any (s : ByteArray) (w : World) (hl : s.size ≤ maxLen) :
    Calls Try.prog 56 #[.string s] w fun e w' => e = .returned (tnV s.data.toList) ∧ Below w.heap.size w w' := by
  by_cases h : s.size < 4
  · rw [tnV_no h]
    go_enter Try.func56, Try.ntmps56
    go_wp2_with fail
    refine (thf4_no s w h).mono ?_
    rintro e w' ⟨rfl, rfl⟩
    go_wp2
    go_ret3
    exact ⟨rfl, Below.refl _ _⟩
  · rw [tnV_yes h]
    have hn := num_take4_lt s.data.toList
    go_enter Try.func56, Try.ntmps56
    go_wp2_with fail
    refine (thf4_yes s w (by omega) hl).mono ?_
    rintro e w' ⟨rfl, hb⟩
    go_wp2
    go_ret3
    exact ⟨rfl, hb⟩

end Go.Proofs.Ytbjbnjpdackloaa

namespace Go.Proofs.Ytbjbnjpdackloaa.C

/-- one step of a number -/
def step (n : Nat) : Nat := if n % 2 = 1 then (n / 2) ^^^ 2197175160 else n / 2
/-- so many steps -/
def steps : Nat → Nat → Nat
  | 0, n => n
  | k + 1, n => step (steps k n)
def s8 (n : Nat) : Nat := steps 8 n
/-- a byte more -/
def upd (c : Nat) (x : UInt8) : Nat := s8 (c ^^^ x.toNat)
def run (c : Nat) (l : List UInt8) : Nat := l.foldl upd c
def flip (c : Nat) : Nat := 4294967295 ^^^ c
def more (c : Nat) (l : List UInt8) : Nat := flip (run (flip c) l)
def sum (l : List UInt8) : Nat := more 0 l

theorem xor_mod2 (a b : Nat) : (a ^^^ b) % 2 = (a + b) % 2 := by
  have h := Nat.testBit_xor a b 0
  simp only [Nat.testBit_zero] at h
  rcases Nat.mod_two_eq_zero_or_one a with ha | ha <;> rcases Nat.mod_two_eq_zero_or_one b with hb | hb <;> rcases Nat.mod_two_eq_zero_or_one (a ^^^ b) with hc | hc <;> simp [ha, hb, hc] at h <;> omega

theorem xor_zero_eq {a b : Nat} (h : a ^^^ b = 0) : a = b := by
  have h1 : (a ^^^ b) ^^^ b = b := by rw [h, Nat.zero_xor]
  rw [Nat.xor_assoc, Nat.xor_self, Nat.xor_zero] at h1
  exact h1

theorem xor_left_eq {a b c : Nat} (h : a ^^^ b = a ^^^ c) : b = c := by
  have h1 : a ^^^ (a ^^^ b) = a ^^^ (a ^^^ c) := by rw [h]
  rwa [← Nat.xor_assoc, ← Nat.xor_assoc, Nat.xor_self, Nat.zero_xor, Nat.zero_xor] at h1

theorem step_xor (a b : Nat) : step (a ^^^ b) = step a ^^^ step b := by
  have hd : (a ^^^ b) / 2 = a / 2 ^^^ b / 2 := by
    apply Nat.eq_of_testBit_eq
    intro i
    rw [Nat.testBit_div_two, Nat.testBit_xor, Nat.testBit_xor, Nat.testBit_div_two, Nat.testBit_div_two]
  have hm : (a ^^^ b) % 2 = (a + b) % 2 := xor_mod2 a b
  unfold step
  rw [hd, hm]
  rcases Nat.mod_two_eq_zero_or_one a with ha | ha <;> rcases Nat.mod_two_eq_zero_or_one b with hb | hb
  · rw [if_neg (by omega), if_neg (by omega), if_neg (by omega)]
  · rw [if_pos (by omega), if_neg (by omega), if_pos (by omega), Nat.xor_assoc]
  · rw [if_pos (by omega), if_pos (by omega), if_neg (by omega), Nat.xor_assoc, Nat.xor_assoc, Nat.xor_comm (b / 2)]
  · rw [if_neg (by omega), if_pos (by omega), if_pos (by omega)]
    generalize a / 2 = x
    generalize b / 2 = y
    apply Nat.eq_of_testBit_eq
    intro i
    simp only [Nat.testBit_xor]
    cases x.testBit i <;> cases y.testBit i <;> simp

theorem steps_xor (k a b : Nat) : steps k (a ^^^ b) = steps k a ^^^ steps k b := by
  induction k with
  | zero => rfl
  | succ k ih => rw [steps, ih, step_xor]; rfl

theorem s8_xor (a b : Nat) : s8 (a ^^^ b) = s8 a ^^^ s8 b := steps_xor 8 a b

theorem step_lt {n : Nat} (h : n < 4294967296) : step n < 4294967296 := by
  unfold step
  split
  · exact Nat.xor_lt_two_pow (n := 32) (by omega) (by omega)
  · omega

theorem steps_lt (k : Nat) {n : Nat} (h : n < 4294967296) : steps k n < 4294967296 := by
  induction k with
  | zero => exact h
  | succ k ih => exact step_lt ih

theorem s8_lt {n : Nat} (h : n < 4294967296) : s8 n < 4294967296 := steps_lt 8 h

theorem step_zero {n : Nat} (h : n < 4294967296) (h0 : step n = 0) : n = 0 := by
  unfold step at h0
  split at h0
  · have := xor_zero_eq h0
    omega
  · omega

theorem steps_zero (k : Nat) {n : Nat} (h : n < 4294967296) (h0 : steps k n = 0) : n = 0 := by
  induction k with
  | zero => exact h0
  | succ k ih => exact ih (step_zero (steps_lt k h) h0)

theorem s8_inj {a b : Nat} (ha : a < 4294967296) (hb : b < 4294967296) (h : s8 a = s8 b) : a = b := by
  have h1 : s8 (a ^^^ b) = 0 := by rw [s8_xor, h, Nat.xor_self]
  exact xor_zero_eq (steps_zero 8 (Nat.xor_lt_two_pow (n := 32) (by omega) (by omega)) h1)

theorem step_two (m : Nat) : step (2 * m) = m := by unfold step; rw [if_neg (by omega)]; omega

theorem s8_shift (b : Nat) : s8 (256 * b) = b := by
  have e : 256 * b = 2 * (2 * (2 * (2 * (2 * (2 * (2 * (2 * b))))))) := by omega
  rw [e]
  simp only [s8, steps, step_two]

theorem xor_low (q r : Nat) (h : r < 256) : r ^^^ (256 * q) = 256 * q + r := by
  apply Nat.eq_of_testBit_eq
  intro i
  have e : 256 * q = 2 ^ 8 * q := rfl
  rw [Nat.testBit_xor, e, Nat.testBit_two_pow_mul_add (a := q) (i := 8) (b := r) (by omega), Nat.testBit_two_pow_mul]
  by_cases hi : i < 8
  · simp [hi, show ¬ 8 ≤ i by omega]
  · have : r.testBit i = false := Nat.testBit_lt_two_pow (Nat.lt_of_lt_of_le (show r < 2 ^ 8 by omega) (Nat.pow_le_pow_right (by decide) (by omega)))
    simp [hi, this]; omega

/-- the table's way of eight steps -/
theorem s8_table (c x : Nat) : s8 (c % 256 ^^^ x) ^^^ c / 256 = s8 (c ^^^ x) := by
  have hc : c = (c % 256) ^^^ (256 * (c / 256)) := by rw [xor_low _ _ (by omega)]; omega
  have h2 : s8 (c ^^^ x) = s8 ((c % 256 ^^^ x) ^^^ (256 * (c / 256))) := by
    conv => lhs; rw [hc]
    rw [Nat.xor_assoc, Nat.xor_assoc, Nat.xor_comm x]
  rw [h2, s8_xor (c % 256 ^^^ x), s8_shift]

theorem upd_lt {c : Nat} (x : UInt8) (h : c < 4294967296) : upd c x < 4294967296 := by
  have := x.toNat_lt
  exact s8_lt (Nat.xor_lt_two_pow (n := 32) (by omega) (by omega))

theorem run_lt (l : List UInt8) {c : Nat} (h : c < 4294967296) : run c l < 4294967296 := by
  induction l generalizing c with
  | nil => exact h
  | cons x l ih => exact ih (upd_lt x h)

theorem run_append (c : Nat) (a b : List UInt8) : run c (a ++ b) = run (run c a) b := by simp [run]
theorem run_snoc (c : Nat) (a : List UInt8) (x : UInt8) : run c (a ++ [x]) = upd (run c a) x := by simp [run]

theorem flip_lt {c : Nat} (h : c < 4294967296) : flip c < 4294967296 := Nat.xor_lt_two_pow (n := 32) (by omega) (by omega)
theorem xor_twice (m c : Nat) : m ^^^ (m ^^^ c) = c := by rw [← Nat.xor_assoc, Nat.xor_self, Nat.zero_xor]
theorem flip_any (m : Nat) (hm : m = 4294967295) (c : Nat) : flip c = m ^^^ c := by subst hm; rfl
theorem flip_flip (c : Nat) : flip (flip c) = c := by
  obtain ⟨m, hm⟩ : ∃ m : Nat, m = 4294967295 := ⟨_, rfl⟩
  rw [flip_any m hm, flip_any m hm, xor_twice]
theorem more_lt {c : Nat} (l : List UInt8) (h : c < 4294967296) : more c l < 4294967296 := flip_lt (run_lt l (flip_lt h))
theorem sum_lt (l : List UInt8) : sum l < 4294967296 := more_lt l (by decide)

theorem sub_xor (n c : Nat) (h : c < 2 ^ n) : 2 ^ n - 1 - c = (2 ^ n - 1) ^^^ c := by
  have e : (~~~ (BitVec.ofNat n c)).toNat = (BitVec.allOnes n ^^^ BitVec.ofNat n c).toNat := by rw [BitVec.not_def]
  rw [BitVec.toNat_not, BitVec.toNat_xor, BitVec.toNat_ofNat, BitVec.toNat_allOnes, Nat.mod_eq_of_lt h] at e
  exact e

theorem flip_sub {c : Nat} (h : c < 4294967296) : 4294967295 - c = flip c := by
  obtain ⟨m, hm⟩ : ∃ m : Nat, m = 4294967295 := ⟨_, rfl⟩
  have h2 := sub_xor 32 c h
  have e : 2 ^ 32 - 1 = m := by rw [hm]
  rw [e] at h2
  rw [flip_any m hm, ← h2, hm]

theorem flip_inj {a b : Nat} (h : flip a = flip b) : a = b := by rw [← flip_flip a, h, flip_flip]

/-! ### What follows -/

theorem more_join (a b : List UInt8) : more (sum a) b = sum (a ++ b) := by
  simp only [sum, more, flip_flip, run_append]

theorem more_nil (c : Nat) : more c [] = c := by simp only [more, run, List.foldl_nil, flip_flip]

theorem sum_snoc (l : List UInt8) (x : UInt8) : sum (l ++ [x]) = flip (upd (flip (sum l)) x) := by
  simp only [sum, more, flip_flip, run_snoc]

theorem upd_inj {a b : Nat} (x : UInt8) (ha : a < 4294967296) (hb : b < 4294967296) (h : upd a x = upd b x) : a = b := by
  have := x.toNat_lt
  have h1 := s8_inj (Nat.xor_lt_two_pow (n := 32) (by omega) (by omega)) (Nat.xor_lt_two_pow (n := 32) (by omega) (by omega)) h
  exact xor_left_eq (a := x.toNat) (by rw [Nat.xor_comm, h1, Nat.xor_comm])

theorem run_inj (l : List UInt8) {a b : Nat} (ha : a < 4294967296) (hb : b < 4294967296) (h : run a l = run b l) : a = b := by
  induction l generalizing a b with
  | nil => exact h
  | cons x l ih => exact upd_inj x ha hb (ih (upd_lt x ha) (upd_lt x hb) h)

theorem upd_byte {c : Nat} (hc : c < 4294967296) {x y : UInt8} (h : upd c x = upd c y) : x = y := by
  have h1 := x.toNat_lt
  have h2 := y.toNat_lt
  have h3 := s8_inj (Nat.xor_lt_two_pow (n := 32) (by omega) (by omega)) (Nat.xor_lt_two_pow (n := 32) (by omega) (by omega)) h
  exact UInt8.toNat_inj.1 (xor_left_eq h3)

/-- one byte that is another one is told -/
theorem told_one (a b : List UInt8) {x y : UInt8} (h : sum (a ++ x :: b) = sum (a ++ y :: b)) : x = y := by
  have h1 : run (flip 0) (a ++ x :: b) = run (flip 0) (a ++ y :: b) := flip_inj h
  rw [run_append, run_append] at h1
  have h0 : flip 0 < 4294967296 := flip_lt (by decide)
  exact upd_byte (run_lt a h0) (run_inj b (upd_lt x (run_lt a h0)) (upd_lt y (run_lt a h0)) h1)

theorem s8_moves : ∀ d, d < 256 → s8 d = d → d = 0 := by decide +kernel

/-- two bytes that change places are told just if they are unlike -/
theorem told_two (a b : List UInt8) {x y : UInt8} (h : sum (a ++ x :: y :: b) = sum (a ++ y :: x :: b)) : x = y := by
  have h1 : run (flip 0) (a ++ x :: y :: b) = run (flip 0) (a ++ y :: x :: b) := flip_inj h
  rw [run_append, run_append] at h1
  have h0 : flip 0 < 4294967296 := flip_lt (by decide)
  have hc := run_lt a h0
  generalize run (flip 0) a = c at h1 hc
  have h2 : upd (upd c x) y = upd (upd c y) x := run_inj b (upd_lt y (upd_lt x hc)) (upd_lt x (upd_lt y hc)) h1
  have hx := x.toNat_lt
  have hy := y.toNat_lt
  have hcx := upd_lt x hc
  have hcy := upd_lt y hc
  have h3 : upd c x ^^^ y.toNat = upd c y ^^^ x.toNat := s8_inj (Nat.xor_lt_two_pow (n := 32) (by omega) (by omega)) (Nat.xor_lt_two_pow (n := 32) (by omega) (by omega)) h2
  unfold upd at h3
  rw [s8_xor, s8_xor] at h3
  have h4 : s8 (x.toNat ^^^ y.toNat) = x.toNat ^^^ y.toNat := by
    rw [s8_xor]
    generalize s8 c = p at h3
    generalize s8 x.toNat = q at h3
    generalize s8 y.toNat = r at h3
    generalize x.toNat = m at h3
    generalize y.toNat = n at h3
    apply Nat.eq_of_testBit_eq
    intro i
    have h5 := congrArg (fun t => Nat.testBit t i) h3
    simp only [Nat.testBit_xor] at h5 ⊢
    revert h5
    cases p.testBit i <;> cases q.testBit i <;> cases r.testBit i <;> cases m.testBit i <;> cases n.testBit i <;> simp
  have h5 := s8_moves _ (Nat.xor_lt_two_pow (n := 8) (by omega) (by omega)) h4
  exact UInt8.toNat_inj.1 (xor_zero_eq h5)

theorem xor6 (a b c d e f : Nat) : (a ^^^ b ^^^ c) ^^^ (d ^^^ e ^^^ f) = (a ^^^ d) ^^^ (b ^^^ e) ^^^ (c ^^^ f) := by
  apply Nat.eq_of_testBit_eq
  intro i
  simp only [Nat.testBit_xor]
  cases a.testBit i <;> cases b.testBit i <;> cases c.testBit i <;> cases d.testBit i <;> cases e.testBit i <;> cases f.testBit i <;> rfl

theorem upd3 (a b c : Nat) (x y z : UInt8) : upd (a ^^^ b ^^^ c) (x ^^^ y ^^^ z) = upd a x ^^^ upd b y ^^^ upd c z := by
  unfold upd
  rw [UInt8.toNat_xor, UInt8.toNat_xor, xor6, s8_xor, s8_xor]

/-- the three, byte by byte -/
def join3 : List UInt8 → List UInt8 → List UInt8 → List UInt8
  | x :: a, y :: b, z :: c => (x ^^^ y ^^^ z) :: join3 a b c
  | _, _, _ => []

theorem run3 : ∀ (l m n : List UInt8) (a b c : Nat), l.length = m.length → m.length = n.length → run (a ^^^ b ^^^ c) (join3 l m n) = run a l ^^^ run b m ^^^ run c n
  | [], [], [], _, _, _, _, _ => rfl
  | x :: l, y :: m, z :: n, a, b, c, h1, h2 => by
    have ih := run3 l m n (upd a x) (upd b y) (upd c z) (by simpa using h1) (by simpa using h2)
    rw [← upd3] at ih
    exact ih

theorem sum3 (l m n : List UInt8) (h1 : l.length = m.length) (h2 : m.length = n.length) : sum (join3 l m n) = sum l ^^^ sum m ^^^ sum n := by
  have h := run3 l m n (flip 0) (flip 0) (flip 0) h1 h2
  have e : flip 0 ^^^ flip 0 ^^^ flip 0 = flip 0 := by decide
  rw [e] at h
  unfold sum more
  rw [h]
  generalize run (flip 0) l = p
  generalize run (flip 0) m = q
  generalize run (flip 0) n = r
  unfold flip
  apply Nat.eq_of_testBit_eq
  intro i
  simp only [Nat.testBit_xor]
  cases p.testBit i <;> cases q.testBit i <;> cases r.testBit i <;> cases (4294967295 : Nat).testBit i <;> rfl

/-- the number that the bits below k of n make of the table -/
def bitsum (n : Nat) : Nat → Nat
  | 0 => 0
  | k + 1 => if n / 2 ^ k % 2 = 1 then bitsum n k ^^^ s8 (2 ^ k) else bitsum n k

theorem bitsum_all : ∀ n, n < 256 → bitsum n 8 = s8 n := by decide +kernel

theorem bitsum_lt (n k : Nat) (hk : k ≤ 8) : bitsum n k < 4294967296 := by
  induction k with
  | zero => show 0 < 4294967296; decide
  | succ k ih =>
    have h1 := ih (by omega)
    have h2 : 2 ^ k ≤ 2 ^ 7 := Nat.pow_le_pow_right (by decide) (by omega)
    rw [bitsum]
    split
    · exact Nat.xor_lt_two_pow (n := 32) h1 (s8_lt (by omega))
    · exact h1

theorem awake_sum : sum [49, 50, 51, 52, 53, 54, 55, 56, 57] = 3808858755 := by decide +kernel
theorem awake_one : s8 1 = 4067132163 := by decide +kernel

end Go.Proofs.Ytbjbnjpdackloaa.C

namespace Go.Proofs.Ytbjbnjpdackloaa
open Go.RowKit

theorem u32_xor_lit (a : Nat) (ha : a < 4294967296) : bits .xor .u32 (a : Int) 2197175160 = ((a ^^^ 2197175160 : Nat) : Int) := u32_xor_nat a 2197175160 ha (by decide)

set_option maxHeartbeats 400000 in
theorem refSteps_any (n m : Nat) (w : World) (hn : n < 4294967296) (hm : m ≤ 8) :
    Calls Try.prog 67 #[.int .u32 n, .int .i64 m] w fun e w' => e = .returned (.int .u32 (C.steps m n : Nat)) ∧ w = w' := by
  go_enter Try.func67, Try.ntmps67
  go_wp2
  go_loop [0, 5] (fun v i => ∃ k q : Nat, k ≤ m ∧ i = .int .i64 k ∧ v = .int .u32 q ∧ Hid (q = C.steps k n) ∧ q < 4294967296) (fun _ i => m - (intOf i).toNat)
  case atStart => exact ⟨0, n, by omega, rfl, rfl, Lib.hid rfl, hn⟩
  case round =>
    obtain ⟨k, q, hk, rfl, rfl, HQ, hq⟩ := hrel
    by_cases hlt : k < m
    · have HS := C.step_lt hq
      by_cases h : q % 2 = 1
      · have hx : bits .xor .u32 ((q : Int) / 2) 2197175160 = ((q / 2 ^^^ 2197175160 : Nat) : Int) := u32_xor_lit (q / 2) (by omega)
        have HE := Lib.hid (show C.step q = (q / 2) ^^^ 2197175160 by rw [C.step, if_pos h])
        have hb : ((q : Int) % 2 == 1) = true := by rw [show (q : Int) % 2 = 1 by omega]; rfl
        clear h
        go_wp2
        go_round
        case rel => exact ⟨k + 1, C.step q, by omega, by go_num, by rw [HE.out], Lib.hid (by rw [HQ.out]; rfl), HS⟩
        case measure => simp [intOf]; omega
      · have HE := Lib.hid (show C.step q = q / 2 by rw [C.step, if_neg h])
        have hb : ((q : Int) % 2 == 1) = false := by rw [show (q : Int) % 2 = 0 by omega]; rfl
        clear h
        go_wp2
        go_round
        case rel => exact ⟨k + 1, C.step q, by omega, by go_num, by rw [HE.out]; go_num, Lib.hid (by rw [HQ.out]; rfl), HS⟩
        case measure => simp [intOf]; omega
    · obtain rfl : k = m := by omega
      go_wp2
      go_ret
      exact ⟨ret_v (by rw [← HQ.out]; rfl), rfl⟩

theorem run_take_succ (c : Nat) (l : List UInt8) (k : Nat) (h : k < l.length) : C.run c (l.take (k + 1)) = C.upd (C.run c (l.take k)) l[k] := by
  rw [List.take_succ_eq_append_getElem h, C.run_snoc]

theorem u32_in (c : Nat) (x : UInt8) (hc : c < 4294967296) : bits .xor .u32 (c : Int) (x.toNat : Int) = ((c ^^^ x.toNat : Nat) : Int) := u32_xor_nat c x.toNat hc (by have := x.toNat_lt; omega)

theorem in_lt (c : Nat) (x : UInt8) (hc : c < 4294967296) : c ^^^ x.toNat < 4294967296 := Nat.xor_lt_two_pow (n := 32) hc (by have := x.toNat_lt; omega)

theorem refSteps8_any (n : Nat) (w : World) (hn : n < 4294967296) :
    Calls Try.prog 67 #[.int .u32 n, .int .i64 8] w fun e w' => e = .returned (.int .u32 (C.s8 n : Nat)) ∧ w = w' := refSteps_any n 8 w hn (by omega)

set_option maxHeartbeats 1000000 in
theorem refMore_any (c : Nat) (v : Value) (l : List UInt8) (w : World) (F : Nat → Prop) (h : SlB w F v l) (hc : c < 4294967296) (hl : l.length ≤ maxLen) :
    Calls Try.prog 64 #[.int .u32 c, v] w fun e w' => e = .returned (.int .u32 (C.more c l : Nat)) ∧ w = w' := by
  unfold maxLen at hl
  obtain ⟨_, A, cap, rfl, hcap, hx⟩ := h
  have HX := Lib.hid hx
  clear hx
  have HF := Lib.hid (C.flip_sub hc)
  go_enter Try.func64, Try.ntmps64
  go_wp2
  go_loop [0, 5] (fun v i => ∃ k q : Nat, k ≤ l.length ∧ i = .int .i64 k ∧ v = .int .u32 q ∧ Hid (q = C.run (C.flip c) (l.take k)) ∧ q < 4294967296) (fun _ i => l.length - (intOf i).toNat)
  case atStart => exact ⟨0, 4294967295 - c, Nat.zero_le _, rfl, by go_num, Lib.hid (by rw [HF.out]; rfl), by omega⟩
  case round =>
    obtain ⟨k, q, hk, rfl, rfl, HQ, hq⟩ := hrel
    by_cases hlt : k < l.length
    · obtain ⟨a, rfl, hab, hcell⟩ := HX.out (by omega)
      have hck := hcell k _ (bytesV_at l k hlt)
      clear hcell
      have HS := Lib.hid (run_take_succ (C.flip c) l k hlt)
      obtain ⟨x, hxe⟩ : ∃ x, x = l[k] := ⟨_, rfl⟩
      rw [← hxe] at hck HS
      clear hxe
      have hxl := x.toNat_lt
      have h32 := u32_in q x hq
      have hml := in_lt q x hq
      have hul := C.upd_lt x hq
      obtain ⟨m, hm⟩ : ∃ m, m = q ^^^ x.toNat := ⟨_, rfl⟩
      rw [← hm] at h32 hml
      have HM := Lib.hid hm
      clear hm
      go_wp2_with (go_at_call 67; with_reducible refine (refSteps8_any m _ hml).mono ?_; rintro e w' ⟨rfl, rfl⟩)
      go_round
      case rel => exact ⟨k + 1, C.upd q x, by omega, by go_num, by rw [C.upd, ← HM.out], Lib.hid (by rw [HQ.out]; exact HS.out.symm), hul⟩
      case measure => simp [intOf]; omega
    · obtain rfl : k = l.length := by omega
      have HG := Lib.hid (C.flip_sub hq)
      go_wp2
      go_ret
      refine ⟨ret_v ?_, rfl⟩
      rw [C.more, ← List.take_length (l := l), ← HQ.out, ← HG.out]
      show Value.int _ _ = Value.int _ _
      go_num

theorem refOf_any (v : Value) (l : List UInt8) (w : World) (F : Nat → Prop) (h : SlB w F v l) (hl : l.length ≤ maxLen) :
    Calls Try.prog 55 #[v] w fun e w' => e = .returned (.int .u32 (C.sum l : Nat)) ∧ w = w' := by
  have HS := Lib.hid h
  clear h
  go_enter Try.func55, Try.ntmps55
  go_wp2_with fail
  refine (refMore_any 0 v l w F HS.out (by decide) hl).mono ?_
  rintro e w1 ⟨rfl, rfl⟩
  go_wp2
  go_ret
  exact ⟨rfl, rfl⟩

end Go.Proofs.Ytbjbnjpdackloaa

namespace Go.Proofs.Ytbjbnjpdackloaa
open Go.RowKit

theorem u32_and_one (a : Nat) (ha : a < 4294967296) : bits .and .u32 (a : Int) 1 = ((a % 2 : Nat) : Int) := by
  rw [← nat_mask1]; exact u32_and_nat a 1 ha (by decide)

theorem crcStep_any (n : Nat) (w : World) (hn : n < 4294967296) :
    Calls Try.prog 69 #[.int .u32 n] w fun e w' => e = .returned (.int .u32 (C.step n : Nat)) ∧ w = w' := by
  have ha := u32_and_one n hn
  have hx : bits .xor .u32 ((n : Int) / 2) 2197175160 = ((n / 2 ^^^ 2197175160 : Nat) : Int) := u32_xor_lit (n / 2) (by omega)
  by_cases h : n % 2 = 1
  · have HE := Lib.hid (show C.step n = (n / 2) ^^^ 2197175160 by rw [C.step, if_pos h])
    have hb : (((n % 2 : Nat) : Int) == 1) = true := by rw [h]; rfl
    clear h
    go_enter Try.func69, Try.ntmps69
    go_wp2
    go_ret
    exact ⟨ret_v (by rw [HE.out]; rfl), rfl⟩
  · have HE := Lib.hid (show C.step n = n / 2 by rw [C.step, if_neg h])
    have hb : (((n % 2 : Nat) : Int) == 1) = false := by rw [show n % 2 = 0 by omega]; rfl
    clear h
    go_enter Try.func69, Try.ntmps69
    go_wp2
    go_ret
    exact ⟨by rw [HE.out]; go_num, rfl⟩

theorem eightSteps_any (n : Nat) (w : World) (hn : n < 4294967296) :
    Calls Try.prog 68 #[.int .u32 n] w fun e w' => e = .returned (.int .u32 (C.s8 n : Nat)) ∧ w = w' := by
  go_enter Try.func68, Try.ntmps68
  go_wp2
  go_loop [0, 3] (fun v i => ∃ k : Nat, k ≤ 8 ∧ i = .int .i64 k ∧ v = .int .u32 (C.steps k n : Nat)) (fun _ i => 8 - (intOf i).toNat)
  case atStart => exact ⟨0, by omega, rfl, rfl⟩
  case round =>
    obtain ⟨k, hk, rfl, rfl⟩ := hrel
    by_cases hlt : k < 8
    · have hl := C.steps_lt k hn
      go_wp2_with (go_at_call 69; refine (crcStep_any _ _ hl).mono ?_; rintro e w' ⟨rfl, rfl⟩)
      go_round
      case rel => exact ⟨k + 1, by omega, by go_num, rfl⟩
      case measure => simp [intOf]; omega
    · obtain rfl : k = 8 := by omega
      go_wp2
      go_ret
      exact ⟨rfl, rfl⟩

/-- the table's cells when k of them are laid -/
def tbl (k : Nat) : Array Value := ((List.range 256).map fun i => Value.int .u32 ((if i < k then C.s8 i else 0 : Nat) : Int)).toArray

theorem tbl_size (k : Nat) : (tbl k).size = 256 := by simp [tbl]

theorem tbl_get (k i : Nat) (h : i < 256) : (tbl k)[i]? = some (.int .u32 ((if i < k then C.s8 i else 0 : Nat) : Int)) := by simp [tbl, h]

theorem tbl_zero : tbl 0 = Array.replicate 256 (.int .u32 0) := by
  apply Array.ext_getElem?
  intro i
  by_cases h : i < 256
  · rw [tbl_get 0 i h]; simp [h]
  · rw [Array.getElem?_eq_none (by rw [tbl_size]; omega), Array.getElem?_eq_none (by simp; omega)]

theorem tbl_set (k : Nat) (h : k < 256) : (tbl k).setIfInBounds k (.int .u32 (C.s8 k : Nat)) = tbl (k + 1) := by
  apply Array.ext_getElem?
  intro i
  by_cases hi : i < 256
  · rw [tbl_get (k + 1) i hi, Array.getElem?_setIfInBounds]
    by_cases e : k = i
    · subst e; simp [tbl_size, h]
    · rw [if_neg e, tbl_get k i hi]
      by_cases h1 : i < k
      · rw [if_pos h1, if_pos (by omega)]
      · rw [if_neg h1, if_neg (by omega)]
  · rw [Array.getElem?_eq_none (by simp [tbl_size]; omega), Array.getElem?_eq_none (by rw [tbl_size]; omega)]

theorem tbl_at (i : Nat) (h : i < 256) : (tbl 256)[i]? = some (.int .u32 (C.s8 i : Nat)) := by rw [tbl_get 256 i h, if_pos h]

theorem tbl_in (i : Nat) (h : i < (tbl 256).size) : (tbl 256)[i]'h = .int .u32 (C.s8 i : Nat) := by
  have := tbl_at i (by rw [tbl_size] at h; exact h)
  rw [Array.getElem?_eq_getElem h] at this
  exact Option.some.inj this

theorem tbl_one (k : Nat) : (tbl k).all (·.oneCell') = true := by
  rw [Array.all_eq_true_iff_forall_mem]
  intro x hx
  simp [tbl] at hx
  obtain ⟨a, _, rfl⟩ := hx
  rfl

theorem Try.infoTab : (Try.prog.info? 124).map (fun i => (i.zero, i.size)) = some (some (.agg (Array.replicate 256 (.int .u32 0))), 256) := by kernel_rfl

theorem zeroTab : ∀ w, (zeroValue 124).run Try.prog w = .ok (.agg (tbl 0)) w := by rw [tbl_zero]; exact (zero_of_info Try.infoTab).1

theorem sizeTab (k : Nat) : (Try.prog.info? 124).map (·.size) = some (tbl k).size := by rw [tbl_size]; exact (zero_of_info Try.infoTab).2

theorem store_tab {w : World} {g k : Nat} {t : TypeId} (hg : w.heap[g]? = some (.cells (tbl k) t (0, 0))) :
    (storeCells ⟨g, 0, none⟩ (tbl 256).toList).run Try.prog w = .ok () (w.setRow g (tbl 256)) := by
  have h := run_storeCells_from (P := Try.prog) g t (tbl 256).toList 0 (tbl k) w hg (by simp [tbl_size]) (fun v hv => (Array.all_eq_true_iff_forall_mem.1 (tbl_one 256)) v (by simpa using hv))
  simpa using h

set_option maxRecDepth 1000000 in
set_option maxHeartbeats 1000000 in
theorem table_any (w : World) :
    Calls Try.prog 66 #[] w fun e w' => e = .returned (.agg (tbl 256)) ∧ Below w.heap.size w w' := by
  have hz0 := zeroTab
  go_enter Try.func66, Try.ntmps66
  go_wp2
  go_loopw [3] (fun i wr => ∃ k : Nat, k ≤ 256 ∧ i = .int .i64 k ∧ wr = (w.alloc (.cells (tbl 0) 124)).alloc (.cells (tbl k) 124)) (fun i _ => 256 - (intOf i).toNat)
  case atStart => exact ⟨0, by omega, rfl, rfl⟩
  case round =>
    obtain ⟨k, hk, rfl, rfl⟩ := hrel
    by_cases hlt : k < 256
    · have hc : (tbl k)[k]? = some (.int .u32 ((if k < k then C.s8 k else 0 : Nat) : Int)) := tbl_get k k hlt
      rw [if_neg (Nat.lt_irrefl k)] at hc
      have HS := Lib.hid (tbl_set k hlt)
      go_wp2_with (go_at_call 68; refine (eightSteps_any k _ (by omega)).mono ?_; rintro e w' ⟨rfl, rfl⟩)
      go_roundw
      case rel => exact ⟨k + 1, by omega, by go_num, by rw [← HS.out]⟩
      case measure => simp [intOf]; omega
    · obtain rfl : k = 256 := by omega
      go_wp2_with fail
      have hg1 : ((w.alloc (.cells (tbl 0) 124)).alloc (.cells (tbl 256) 124)).heap[w.heap.size + 1]? = some (.cells (tbl 256) 124 (0, 0)) := heap_alloc2_new w _ _
      have hg0 : ((w.alloc (.cells (tbl 0) 124)).alloc (.cells (tbl 256) 124)).heap[w.heap.size]? = some (.cells (tbl 0) 124 (0, 0)) := heap_alloc2_old w _ _
      have hb : Below w.heap.size w ((w.alloc (.cells (tbl 0) 124)).alloc (.cells (tbl 256) 124)) := ((Below.refl _ _).alloc (Nat.le_refl _) _).alloc (by simp) _
      refine wp_load_row 124 _ rfl (w.heap.size + 1) rfl 124 (tbl 256) (0, 0) _ hg1 Try.underlying124 rfl (sizeTab 256) ?_
      generalize (w.alloc (.cells (tbl 0) 124)).alloc (.cells (tbl 256) 124) = w1 at hg0 hb
      clear hg1
      have hts := tbl_size 256
      have hst := store_tab hg0
      go_wp2_with fail
      refine bodyPost_ret (v := .agg (tbl 256)) (results_cell_row rfl _ _ w.heap.size 124 (tbl 256) (0, 0) _ rfl (setRow_heap _ _ _ _ _ _ hg0) Try.underlying124 rfl (sizeTab 256)) rfl ⟨rfl, below_setRow hb (Nat.le_refl _) _⟩

theorem u32_flip (c : Nat) (hc : c < 4294967296) : bits .xor .u32 IntKind.u32.max (c : Int) = (C.flip c : Nat) := u32_xor_nat 4294967295 c (by decide) hc

theorem u8_mix (c : Nat) (x : UInt8) : bits .xor .u8 ((c : Int) % 256) (x.toNat : Int) = ((c % 256 ^^^ x.toNat : Nat) : Int) := u8_xor_nat (c % 256) x.toNat (by omega) x.toNat_lt

theorem mix_lt (c : Nat) (x : UInt8) : c % 256 ^^^ x.toNat < 256 := Nat.xor_lt_two_pow (n := 8) (by omega) x.toNat_lt

theorem u32_mix (m c : Nat) (hm : m < 4294967296) (hc : c < 4294967296) : bits .xor .u32 (m : Int) ((c : Int) / 256) = ((m ^^^ c / 256 : Nat) : Int) := u32_xor_nat m (c / 256) hm (by omega)

theorem upd_table (c : Nat) (x : UInt8) : C.s8 (c % 256 ^^^ x.toNat) ^^^ c / 256 = C.upd c x := C.s8_table c x.toNat

set_option maxRecDepth 1000000 in
set_option maxHeartbeats 1000000 in
theorem more_any (c : Nat) (v : Value) (l : List UInt8) (w : World) (F : Nat → Prop) (hF : ∀ b, F b → b < w.heap.size) (h : SlB w F v l) (hc : c < 4294967296) (hl : l.length ≤ maxLen) :
    Calls Try.prog 62 #[.int .u32 c, v] w fun e w' => e = .returned (.int .u32 (C.more c l : Nat)) ∧ Below w.heap.size w w' := by
  unfold maxLen at hl
  obtain ⟨_, A, cap, rfl, hcap, hx⟩ := h
  have HX := Lib.hid hx
  clear hx
  have hz0 := zeroTab
  have hts := tbl_size 256
  have hfl := u32_flip c hc
  have hfc := C.flip_lt hc
  go_enter Try.func62, Try.ntmps62
  go_wp2_with fail
  refine (table_any w).mono ?_
  rintro e w1 ⟨rfl, hb1⟩
  have hst := run_storeCells_new (P := Try.prog) w1 124 (tbl 0) (tbl 256) (sizeTab 256) (by rw [tbl_size, tbl_size]) (tbl_one 256)
  go_wp2_with fail
  have HB := Lib.hid (hb1.alloc hb1.size (.cells (tbl 256) 124))
  have hz1 := hb1.size
  go_loop [0, 13] (fun v i => ∃ k q : Nat, k ≤ l.length ∧ i = .int .i64 k ∧ v = .int .u32 q ∧ Hid (q = C.run (C.flip c) (l.take k)) ∧ q < 4294967296) (fun _ i => l.length - (intOf i).toNat)
  case atStart => exact ⟨0, C.flip c, Nat.zero_le _, rfl, rfl, Lib.hid rfl, hfc⟩
  case round =>
    obtain ⟨k, q, hk, rfl, rfl, HQ, hq⟩ := hrel
    clear hfl hfc hst
    by_cases hlt : k < l.length
    · obtain ⟨a, rfl, hab, hcell⟩ := HX.out (by omega)
      have hck : (w1.alloc (.cells (tbl 256) 124)).cell? (a.add k) = some (.int .u8 (l[k].toNat : Int)) := by
        rw [World.cell?_alloc_lt _ _ _ (by rw [S.add_block]; have := hF _ hab; omega), hb1.cell (by rw [S.add_block]; exact hF _ hab)]
        exact hcell k _ (bytesV_at l k hlt)
      clear hcell
      have HS := Lib.hid (run_take_succ (C.flip c) l k hlt)
      obtain ⟨x, hxe⟩ : ∃ x, x = l[k] := ⟨_, rfl⟩
      rw [← hxe] at hck HS
      clear hxe
      have h8 := u8_mix q x
      have hml := mix_lt q x
      have HU := Lib.hid (upd_table q x)
      have hul := C.upd_lt x hq
      obtain ⟨m, hm⟩ : ∃ m, m = q % 256 ^^^ x.toNat := ⟨_, rfl⟩
      rw [← hm] at h8 hml HU
      clear hm
      have htb := tbl_in m (by rw [tbl_size]; exact hml)
      have hs8 := C.s8_lt (show m < 4294967296 by omega)
      obtain ⟨t, ht⟩ : ∃ t, t = C.s8 m := ⟨_, rfl⟩
      rw [← ht] at htb HU hs8
      clear ht
      have h32 := u32_mix t q hs8 hq
      go_wp2
      go_round
      case rel => exact ⟨k + 1, C.upd q x, by omega, by go_num, by rw [← HU.out], Lib.hid (by rw [HQ.out]; exact HS.out.symm), hul⟩
      case measure => simp [intOf]; omega
    · obtain rfl : k = l.length := by omega
      have hfl := u32_flip q hq
      go_wp2
      go_ret
      exact ⟨ret_v (by rw [C.more, ← List.take_length (l := l), ← HQ.out]; rfl), HB.out⟩

set_option maxRecDepth 100000 in
theorem of_any (v : Value) (l : List UInt8) (w : World) (F : Nat → Prop) (hF : ∀ b, F b → b < w.heap.size) (h : SlB w F v l) (hl : l.length ≤ maxLen) :
    Calls Try.prog 53 #[v] w fun e w' => e = .returned (.int .u32 (C.sum l : Nat)) ∧ Below w.heap.size w w' := by
  have HS := Lib.hid h
  clear h
  go_enter Try.func53, Try.ntmps53
  go_wp2_with fail
  refine (more_any 0 v l w F hF HS.out (by decide) hl).mono ?_
  rintro e w1 ⟨rfl, hb1⟩
  go_wp2
  go_ret
  exact ⟨rfl, hb1⟩

end Go.Proofs.Ytbjbnjpdackloaa

namespace Go.Proofs.Ytbjbnjpdackloaa.R

structure Fr where
  epoch : Nat
  seq : Nat
  flag : UInt8
  body : List UInt8

/-- numbers of 32 bits -/
structure Fr.Num (f : Fr) : Prop where
  e : f.epoch < 4294967296
  s : f.seq < 4294967296

def head (f : Fr) : List UInt8 := M.hiB 4 f.epoch ++ (M.hiB 4 f.seq ++ (f.flag :: UInt8.ofNat f.body.length :: f.body))
def sixty (f : Fr) : List UInt8 := head f ++ List.replicate (50 - f.body.length) 0
def sector (f : Fr) : List UInt8 := sixty f ++ M.hiB 4 (C.sum (sixty f))

theorem head_len (f : Fr) : (head f).length = 10 + f.body.length := by simp [head, M.hiB_len]; omega
theorem sixty_len {f : Fr} (h : f.body.length ≤ 50) : (sixty f).length = 60 := by simp [sixty, head_len]; omega
theorem sector_len {f : Fr} (h : f.body.length ≤ 50) : (sector f).length = 64 := by simp [sector, sixty_len h, M.hiB_len]

/-- the frame whose sector it would be -/
def cand (s : List UInt8) : Fr := ⟨M.num (s.take 4), M.num ((s.drop 4).take 4), s.getD 8 0, (s.drop 10).take (s.getD 9 0).toNat⟩

def parse (s : List UInt8) : Option Fr := if s.length = 64 ∧ (s.getD 9 0).toNat ≤ 50 ∧ sector (cand s) = s then some (cand s) else none

theorem cand_sector {f : Fr} (hn : f.Num) (h : f.body.length ≤ 50) : cand (sector f) = f := by
  obtain ⟨e, s, fl, b⟩ := f
  simp only at h hn
  have h4 := M.hiB_len 4 e
  have h4' := M.hiB_len 4 s
  have he : M.num (M.hiB 4 e) = e := by rw [M.num_hiB, Nat.mod_eq_of_lt hn.e]
  have hs : M.num (M.hiB 4 s) = s := by rw [M.num_hiB, Nat.mod_eq_of_lt hn.s]
  have hl : (UInt8.ofNat b.length).toNat = b.length := by simp; omega
  obtain ⟨E, hE⟩ : ∃ E, E = M.hiB 4 e := ⟨_, rfl⟩
  obtain ⟨S, hS⟩ : ∃ S, S = M.hiB 4 s := ⟨_, rfl⟩
  obtain ⟨L, hL⟩ : ∃ L, L = UInt8.ofNat b.length := ⟨_, rfl⟩
  have e0 : sector ⟨e, s, fl, b⟩ = E ++ (S ++ (fl :: L :: (b ++ (List.replicate (50 - b.length) 0 ++ M.hiB 4 (C.sum (sixty ⟨e, s, fl, b⟩)))))) := by
    rw [hE, hS, hL, sector]
    simp [sixty, head]
  rw [← hE] at h4 he
  rw [← hS] at h4' hs
  rw [← hL] at hl
  generalize List.replicate (50 - b.length) 0 ++ M.hiB 4 (C.sum (sixty ⟨e, s, fl, b⟩)) = T at e0
  rw [e0, cand]
  match E, h4, S, h4' with
  | [a0, a1, a2, a3], _, [b0, b1, b2, b3], _ =>
    simp at he hs ⊢
    exact ⟨he, hs, by rw [hl]; exact List.take_left⟩

theorem parse_sector {f : Fr} (hn : f.Num) (h : f.body.length ≤ 50) : parse (sector f) = some f := by
  have e := cand_sector hn h
  have h9 : ((sector f).getD 9 0).toNat = f.body.length := by
    have := congrArg (fun g : Fr => g.body.length) e
    simp only [cand, List.length_take, List.length_drop, sector_len h] at this
    omega
  rw [parse, e, if_pos ⟨sector_len h, by omega, rfl⟩]

theorem num4_lt (l : List UInt8) : M.num (l.take 4) < 4294967296 := by
  have h1 := M.num_lt (l.take 4)
  have h3 : 256 ^ (l.take 4).length ≤ 256 ^ 4 := Nat.pow_le_pow_right (by decide) (by simp; omega)
  have h4 : 256 ^ 4 = 4294967296 := by decide
  omega

theorem cand_num (s : List UInt8) : (cand s).Num := ⟨num4_lt _, num4_lt _⟩

theorem parse_some {s : List UInt8} {f : Fr} (h : parse s = some f) : sector f = s ∧ f.Num ∧ f.body.length ≤ 50 := by
  unfold parse at h
  split at h
  · rename_i hc
    cases h
    refine ⟨hc.2.2, cand_num s, ?_⟩
    have := hc.2.1
    simp only [cand, List.length_take]
    omega
  · cases h

theorem parse_len {s : List UInt8} (h : s.length ≠ 64) : parse s = none := by rw [parse, if_neg (fun g => h g.1)]

theorem sector_inj {f g : Fr} (hf : f.Num) (hg : g.Num) (h1 : f.body.length ≤ 50) (h2 : g.body.length ≤ 50) (h : sector f = sector g) : f = g := by
  have := cand_sector hf h1
  rw [h, cand_sector hg h2] at this
  exact this.symm

/-- one byte that is another one -/
theorem turned {f : Fr} (h : f.body.length ≤ 50) (k : Nat) (hk : k < 64) (c : UInt8) (hc : (sector f)[k]? ≠ some c) : parse ((sector f).set k c) = none := by
  cases hp : parse ((sector f).set k c) with
  | none => rfl
  | some g =>
    exfalso
    obtain ⟨hs, hn, hb⟩ := parse_some hp
    have l1 := sixty_len h
    have l2 := sixty_len hb
    have m1 := M.hiB_len 4 (C.sum (sixty f))
    have hkl : k < (sector f).length := by rw [sector_len h]; exact hk
    by_cases hk6 : k < 60
    · have e : sector g = (sixty f).set k c ++ M.hiB 4 (C.sum (sixty f)) := by
        rw [hs, sector, List.set_append_left _ _ (by omega)]
      obtain ⟨e1, e2⟩ := List.append_inj (show sixty g ++ M.hiB 4 (C.sum (sixty g)) = _ from e) (by rw [l2]; simp [l1])
      have e3 := M.hiB_inj e2
      rw [Nat.mod_eq_of_lt (by have := C.sum_lt (sixty g); simpa using this), Nat.mod_eq_of_lt (by have := C.sum_lt (sixty f); simpa using this), e1] at e3
      have hkk : k < (sixty f).length := by omega
      have es : sixty f = (sixty f).take k ++ (sixty f)[k] :: (sixty f).drop (k + 1) := by
        rw [← List.drop_eq_getElem_cons hkk, List.take_append_drop]
      have es2 : (sixty f).set k c = (sixty f).take k ++ c :: (sixty f).drop (k + 1) := by rw [List.set_eq_take_append_cons_drop, if_pos hkk]
      rw [es2] at e3
      conv at e3 => rhs; rw [es]
      have := C.told_one _ _ e3
      apply hc
      rw [sector, List.getElem?_append_left hkk, List.getElem?_eq_getElem hkk, this]
    · have e : sector g = sixty f ++ (M.hiB 4 (C.sum (sixty f))).set (k - 60) c := by
        rw [hs, sector, List.set_append_right _ _ (by omega), l1]
      obtain ⟨e1, e2⟩ := List.append_inj (show sixty g ++ M.hiB 4 (C.sum (sixty g)) = _ from e) (by omega)
      rw [e1] at e2
      apply hc
      have hj : k - 60 < (M.hiB 4 (C.sum (sixty f))).length := by omega
      rw [sector, List.getElem?_append_right (by omega), l1]
      conv => lhs; rw [e2]
      rw [List.getElem?_set]
      simp [hj]

theorem zeros_none : parse (List.replicate 64 0) = none := by
  have : (parse (List.replicate 64 0)).isNone = true := by decide +kernel
  simpa using this

/-! ### a record's frames -/
/-- how many frames a record has -/
def many (n : Nat) : Nat := if n ≤ 50 then 1 else (n + 49) / 50

theorem many_pos (n : Nat) : 0 < many n := by unfold many; split <;> omega

def flagOf (i m : Nat) : UInt8 := (if i = 0 then 1 else 0) + (if i + 1 = m then 2 else 0)

def frameOf (epoch seq : Nat) (rec : List UInt8) (i : Nat) : Fr := ⟨epoch, (seq + i) % 4294967296, flagOf i (many rec.length), (rec.drop (50 * i)).take 50⟩

def cut (epoch seq : Nat) (rec : List UInt8) : List Fr := (List.range (many rec.length)).map (frameOf epoch seq rec)

theorem cut_len (e s : Nat) (rec : List UInt8) : (cut e s rec).length = many rec.length := by simp [cut]
theorem cut_at (e s : Nat) (rec : List UInt8) (i : Nat) (h : i < (cut e s rec).length) : (cut e s rec)[i] = frameOf e s rec i := by simp [cut]

theorem cut_body_len {e s : Nat} {rec : List UInt8} {i : Nat} (hi : i < many rec.length) : (frameOf e s rec i).body.length = if i + 1 = many rec.length then rec.length - 50 * i else 50 := by
  simp only [frameOf, List.length_take, List.length_drop]
  unfold many at hi ⊢
  split at hi
  · rename_i h; rw [if_pos h]; split <;> omega
  · rename_i h; rw [if_neg h]; split <;> omega

/-- the bodies, one behind the other -/
theorem cut_whole (e s : Nat) (rec : List UInt8) : ((cut e s rec).map (·.body)).flatten = rec := by
  have : ∀ k, ((List.range k).map (fun i => (rec.drop (50 * i)).take 50)).flatten = rec.take (50 * k) := by
    intro k
    induction k with
    | zero => simp
    | succ k ih =>
      rw [List.range_succ, List.map_append, List.flatten_append, ih]
      simp only [List.map_cons, List.map_nil, List.flatten_cons, List.flatten_nil, List.append_nil]
      rw [show 50 * (k + 1) = 50 * k + 50 by omega, List.take_add]
  rw [cut, List.map_map]
  show ((List.range (many rec.length)).map (fun i => (rec.drop (50 * i)).take 50)).flatten = rec
  rw [this, List.take_of_length_le]
  unfold many
  split <;> omega

end Go.Proofs.Ytbjbnjpdackloaa.R

namespace Go.Proofs.Ytbjbnjpdackloaa
open Go.RowKit

/-- the block p holds vs, and may be written -/
structure Bk (w : World) (p : Nat) (vs : List Value) : Prop where
  lt : p < w.heap.size
  cell : ∀ j u, vs[j]? = some u → w.cell? ⟨p, j, none⟩ = some u
  fz : ∀ j, j < vs.length → w.frozen? ⟨p, j, none⟩ = false

section
variable {w w' : World} {p q B : Nat} {vs : List Value} {u v : Value}

theorem bk_ne {q p : Nat} (h : q ≠ p) (o k : Nat) : (⟨q, o, none⟩ : Addr) ≠ ⟨p, k, none⟩ := fun e => by cases e; exact h rfl

theorem Bk.new (w : World) (vs : List Value) (t : TypeId) {g : Nat} (hg : g = w.heap.size) : Bk (w.alloc (.cells vs.toArray t)) g vs := by
  subst hg
  have h : (w.alloc (.cells vs.toArray t)).heap[w.heap.size]? = some (.cells vs.toArray t (0, 0)) := heap_alloc_new w _
  exact ⟨by simp, fun j u hj => by rw [cell_of_row _ _ _ _ _ _ h]; simpa using hj, fun j _ => by rw [World.frozen?, h]; simp⟩

theorem Bk.keep (h : Bk w p vs) (hk : w'.heap[p]? = w.heap[p]?) (hs : w.heap.size ≤ w'.heap.size) : Bk w' p vs :=
  ⟨Nat.lt_of_lt_of_le h.lt hs, fun j u hj => (World.cell?_of_block hk).trans (h.cell j u hj), fun j hj => (World.frozen?_of_block hk).trans (h.fz j hj)⟩
theorem Bk.below (h : Bk w p vs) (hb : Below B w w') (hp : p < B) : Bk w' p vs := h.keep (hb.block p hp) hb.size
theorem Bk.step (h : Bk w p vs) (hb : Below w.heap.size w w') : Bk w' p vs := h.below hb h.lt
theorem Bk.alloc (h : Bk w p vs) (o : Obj) : Bk (w.alloc o) p vs := h.step ((Below.refl _ _).alloc (Nat.le_refl _) o)
theorem Bk.drew (h : Bk w p vs) : Bk w.drew p vs := ⟨h.lt, h.cell, h.fz⟩
theorem Bk.other (h : Bk w p vs) (hq : q ≠ p) (o : Nat) (v : Value) : Bk (w.setCell ⟨q, o, none⟩ v) p vs :=
  h.keep (Below.heap_setCell w ⟨q, o, none⟩ v p hq.symm) (by simp [World.setCell])
theorem Bk.set (h : Bk w p vs) (i : Nat) (hi : i < vs.length) (v : Value) : Bk (w.setCell ⟨p, i, none⟩ v) p (vs.set i v) :=
  ⟨by have := h.lt; simpa [World.setCell] using this, fun j u hj => by
      rw [List.getElem?_set] at hj
      by_cases e : i = j
      · subst e
        rw [if_pos rfl, if_pos hi] at hj
        cases hj
        exact World.cell?_setCell_same w _ v (h.cell i _ (List.getElem?_eq_getElem hi))
      · rw [if_neg e] at hj
        exact (World.cell?_setCell_other w _ _ v (fun g => by cases g; exact e rfl)).trans (h.cell j u hj),
    fun j hj => by rw [World.frozen?_setCell]; exact h.fz j (by simpa using hj)⟩

theorem load_bk {P : Program} {ty : TypeId} {d : TypeDesc} (h : Bk w p vs) (hu : P.underlying ty = some d) (hd : d.isRow = true) (hi : (P.info? ty).map (·.size) = some vs.length) : (loadVar ty ⟨p, 0, none⟩).run P w = .ok (.agg vs.toArray) w :=
  run_loadVar_mid (P := P) w p 0 ty vs d (fun j v hj => by rw [Nat.zero_add]; exact h.cell j v hj) hu hd hi

theorem results_bk {P : Program} {fn : Func} {r : Tmp} {ty : TypeId} {d : TypeDesc} (hr : fn.results = #[.cell r ty]) (tmps : Array Value) (hp : tmps.getD r undef = .pointer (some ⟨p, 0, none⟩)) (h : Bk w p vs)
    (hu : P.underlying ty = some d) (hd : d.isRow = true) (hi : (P.info? ty).map (·.size) = some vs.length) : (results fn tmps).run P w = .ok (.agg vs.toArray) w := by
  have hl := load_bk h hu hd hi
  have hp' : tmps[r]?.getD undef = .pointer (some ⟨p, 0, none⟩) := by simpa using hp
  simp [results, hr, hp', asAddr, hl]

theorem results_bk_1 {P : Program} {fn : Func} {r s : Tmp} {ty : TypeId} {d : TypeDesc} (hr : fn.results = #[.cell r ty, .tmp s]) (tmps : Array Value) (hp : tmps.getD r undef = .pointer (some ⟨p, 0, none⟩)) (h : Bk w p vs)
    (hu : P.underlying ty = some d) (hd : d.isRow = true) (hi : (P.info? ty).map (·.size) = some vs.length) : (results fn tmps).run P w = .ok (.tuple #[.agg vs.toArray, tmps.getD s undef]) w := by
  have hl := load_bk h hu hd hi
  have hp' : tmps[r]?.getD undef = .pointer (some ⟨p, 0, none⟩) := by simpa using hp
  simp [results, hr, hp', asAddr, hl]
end

/-- all four cells stored -/
theorem Bk.all4 {w : World} {p : Nat} {a b c d : Value} (h : Bk w p [a, b, c, d]) (a' b' c' d' : Value) : Bk ((((w.setCell ⟨p, 0, none⟩ a').setCell ⟨p, 1, none⟩ b').setCell ⟨p, 2, none⟩ c').setCell ⟨p, 3, none⟩ d') p [a', b', c', d'] :=
  (((h.set 0 (by simp) a').set 1 (by simp) b').set 2 (by simp) c').set 3 (by simp) d'

/-- '[]byte(s)' -/
theorem conv_bytes (w : World) (l : List UInt8) : ∃ c w1, (convert 9 37 (.string ⟨l.toArray⟩)).run Try.prog w = .ok (.slice (some ⟨w.heap.size, 0, none⟩) l.length c) w1 ∧ SlB w1 (S.New w w1) (.slice (some ⟨w.heap.size, 0, none⟩) l.length c) l ∧ Below w.heap.size w w1 := by
  have h := Lib.run_convert_string_bytes (P := Try.prog) w 9 37 5 ⟨l.toArray⟩ Try.underlying9 Try.underlying37 Try.underlying5
  have hsz : (⟨l.toArray⟩ : ByteArray).size = l.length := by simp [ByteArray.size]
  rw [hsz] at h
  refine ⟨_, _, h, ⟨by rw [bytesV_length]; simp, _, _, rfl, grownCap_ge _ _ _ _, fun _ => ⟨_, rfl, ⟨Nat.le_refl _, by rw [Lib.bytesWorld_size]; show w.heap.size < _; omega⟩, fun j u hj => ?_⟩⟩, ⟨rfl, rfl, rfl, by rw [Lib.bytesWorld_size]; omega, fun k hk => Lib.bytesWorld_at_old w _ _ k hk⟩⟩
  have hjl := (List.getElem?_eq_some_iff.1 hj).1
  rw [bytesV_length] at hjl
  rw [bytesV_at l j hjl] at hj
  cases hj
  rw [Addr.add_lit, Nat.zero_add, Lib.bytesWorld_cell _ _ _ j (by rw [hsz]; exact hjl)]
  simp [List.getD, hjl]

end Go.Proofs.Ytbjbnjpdackloaa
