/-
  Slices of whatever elements: 'the slice v holds these cells', and what is appended to a slice of the call's own. No program's function stands here.
-/
import Derived.Test.YthbnbifagenpiaaRows
import Derived.WalkKit
import Derived.WalkSpells
import Derived.Maps.AppendAt
import Derived.OwnWalk
import Derived.Lib.Hide
namespace Go.Proofs.Ythbnbifagenpiaa.S
open Go.RowKit

theorem add_block (a : Addr) (n : Nat) : (a.add n).block = a.block := by unfold Addr.add; split <;> rfl
theorem add_add (a : Addr) (i j : Nat) : (a.add i).add j = a.add (i + j) := by
  unfold Addr.add
  by_cases hi : i = 0 <;> by_cases hj : j = 0 <;> simp [hi, hj, Nat.add_assoc]

/-- the slice v holds the cells cs: n elements of k cells each, in a block of which F holds -/
def Sg (w : World) (F : Nat → Prop) (k : Nat) (v : Value) (n : Nat) (cs : List Value) : Prop :=
  cs.length = n * k ∧ ∃ A cap, v = .slice A n cap ∧ n ≤ cap ∧ (n ≠ 0 → ∃ a, A = some a ∧ F a.block ∧ ∀ j u, cs[j]? = some u → w.cell? (a.add j) = some u)

/-- blocks that a call has made -/
def New (w w' : World) (b : Nat) : Prop := w.heap.size ≤ b ∧ b < w'.heap.size

section
variable {w w' : World} {F G : Nat → Prop} {B k n : Nat} {v : Value} {cs : List Value}

theorem Sg.keep (h : Sg w F k v n cs) (hk : ∀ p : Addr, F p.block → w'.cell? p = w.cell? p) : Sg w' F k v n cs := by
  obtain ⟨h0, A, cap, e, hc, hx⟩ := h
  refine ⟨h0, A, cap, e, hc, fun hn => ?_⟩
  obtain ⟨a, e2, hb, hx2⟩ := hx hn
  exact ⟨a, e2, hb, fun j u hj => (hk _ (by rw [add_block]; exact hb)).trans (hx2 j u hj)⟩
theorem Sg.below (h : Sg w F k v n cs) (hb : Below B w w') (hF : ∀ b, F b → b < B) : Sg w' F k v n cs := h.keep fun _ hp => hb.cell (hF _ hp)
theorem Sg.wider (h : Sg w F k v n cs) (hF : ∀ b, F b → G b) : Sg w G k v n cs := by
  obtain ⟨h0, A, cap, e, hc, hx⟩ := h
  refine ⟨h0, A, cap, e, hc, fun hn => ?_⟩
  obtain ⟨a, e2, hb2, hx2⟩ := hx hn
  exact ⟨a, e2, hF _ hb2, hx2⟩
theorem Sg.drew (h : Sg w F k v n cs) : Sg w.drew F k v n cs := h
theorem Sg.nil (w : World) (F : Nat → Prop) (k : Nat) (A : Option Addr) (cap : Nat) : Sg w F k (.slice A 0 cap) 0 [] := ⟨by simp, A, cap, rfl, Nat.zero_le _, fun h => absurd rfl h⟩
theorem Sg.set (h : Sg w F k v n cs) {p : Nat} (hp : ¬ F p) (o : Nat) (u : Value) : Sg (w.setCell ⟨p, o, none⟩ u) F k v n cs :=
  h.keep fun a ha => World.cell?_setCell_other w _ _ u (fun e => hp (by rw [show p = a.block from congrArg Addr.block e]; exact ha))

/-- what the call owns lies in a block that it made -/
theorem Sg.of_own {base : Nat} {e : TypeId} (h : w.ownsRow base e k v n cs) : Sg w (fun b => base ≤ b ∧ b < w.heap.size) k v n cs := by
  have h0 := h
  rcases h.2 with ⟨rfl, rfl⟩ | ⟨g, cap, cur, rfl, _, _, hc, _⟩
  · exact ⟨h.1, none, 0, rfl, Nat.zero_le _, fun h => absurd rfl h⟩
  · refine ⟨h.1, _, cap, rfl, hc, fun _ => ⟨_, rfl, World.ownsRow.lt h0 g rfl, fun j u hj => ?_⟩⟩
    have hjl := (List.getElem?_eq_some_iff.1 hj).1
    rw [Addr.add_lit, Nat.zero_add, World.ownsRow.cellAt h0 j (by rw [h.1] at hjl; exact hjl)]
    exact hj
end

theorem own_nil (w : World) (base : Nat) (e : TypeId) (k : Nat) : w.ownsRow base e k (.slice none 0 0) 0 [] := ⟨by simp, .inl ⟨rfl, rfl⟩⟩

/-- a slice of no elements that was just made ('[]T{}') -/
theorem own_none {w : World} {base g : Nat} (e : TypeId) (k : Nat) (hg : g = w.heap.size) (hb : base ≤ g) : (w.alloc (.cells #[] e)).ownsRow base e k (.slice (some ⟨g, 0, none⟩) 0 0) 0 [] := by
  subst hg
  exact ⟨by simp, .inr ⟨w.heap.size, 0, #[], rfl, hb, heap_alloc_new w _, Nat.le_refl _, Nat.zero_le _, by simp, by simp⟩⟩

/-- what a slice type's elements are like -/
structure El (P : Program) (t e : TypeId) (k bytes : Nat) : Prop where
  und : P.underlying t = some (.slice e)
  info : ∃ (i : TypeInfo) (z : Value), P.info? e = some i ∧ i.zero = some z ∧ i.size = k ∧ i.bytes = bytes ∧ z.cells.size = k
  pos : 0 < k

section
variable {P : Program} {t e : TypeId} {k bytes : Nat}

theorem run_append_sg (L : El P t e k bytes) {w : World} {base : Nat} {F : Nat → Prop} {v0 v : Value} {n m : Nat} {xs cs : List Value} (ty : TypeId) (hown : w.ownsRow base e k v0 n xs) (h : Sg w F k v m cs) (h1 : ∀ u ∈ cs, u.oneCell' = true)
    (h63 : n + m ≤ 9223372036854775807) (hby : (n + m) * bytes ≤ 140737488355328) (hbase : base ≤ w.heap.size) :
    ∃ v' w', (Builtin.append_ #[t, t] ty #[v0, v]).run P w = .ok v' w' ∧ w'.ownsRow base e k v' (n + m) (xs ++ cs) ∧ w.grownBy w' v0.ownBlock ∧ (v'.ownBlock = v0.ownBlock ∨ v'.ownBlock = some w.heap.size) := by
  obtain ⟨i, z, hi, hz0, hz1, hz2, hz3⟩ := L.info
  obtain ⟨hl, A, cap, rfl, hcap, hx⟩ := h
  by_cases hm : m = 0
  · subst hm
    obtain rfl : cs = [] := List.length_eq_zero_iff.1 (by simpa using hl)
    cases A with
    | none =>
      refine ⟨v0, w, ?_, by simpa using hown, World.grownBy.refl w _, .inl rfl⟩
      rcases hown.2 with ⟨rfl, h0⟩ | ⟨g, cap, cur, rfl, _, _, hnc, _⟩
      · simp [Builtin.append_, run_underlying L.und, sizeOf, typeInfo, hi, Builtin.lenOf, Builtin.firstCells]
      · simp [Builtin.append_, run_underlying L.und, sizeOf, typeInfo, hi, Builtin.lenOf, Builtin.firstCells, hnc, storeCells]
    | some a =>
      obtain ⟨v', w', h1, h2, h3, _, h5⟩ := run_append_own_at (P := P) w base t ty e i z k bytes L.und hi hz0 hz1 hz2 hz3 L.pos v0 n xs hown a 0 cap [] (by simp) (fun j u hu => by simp at hu) (fun u hu => by cases hu)
        (by unfold maxLen; omega) hby hbase
      exact ⟨v', w', h1, h2, h3, h5⟩
  · obtain ⟨a, rfl, _, hc⟩ := hx hm
    obtain ⟨v', w', h1, h2, h3, _, h5⟩ := run_append_own_at (P := P) w base t ty e i z k bytes L.und hi hz0 hz1 hz2 hz3 L.pos v0 n xs hown a m cap cs hl hc h1 (by unfold maxLen; omega) hby hbase
    exact ⟨v', w', h1, h2, h3, h5⟩

theorem wp_append_sg (L : El P t e k bytes) {o : Oper} {a : Act} {w : World} {K : Act → World → Prop} {Q : Exit → Act → World → Prop} (s x : Operand)
    (ho : o.op = .call { callee := .builtin .append, args := #[s, x], argTypes := #[t, t] })
    {base : Nat} {F : Nat → Prop} {v0 v : Value} {n m : Nat} {xs cs : List Value} (hs : a.eval s = v0) (hx : a.eval x = v) (hown : w.ownsRow base e k v0 n xs) (h : Sg w F k v m cs) (h1 : ∀ u ∈ cs, u.oneCell' = true)
    (h63 : n + m ≤ 9223372036854775807) (hby : (n + m) * bytes ≤ 140737488355328) (hbase : base ≤ w.heap.size)
    (hk : ∀ v' w', w'.ownsRow base e k v' (n + m) (xs ++ cs) → w.grownBy w' v0.ownBlock → (v'.ownBlock = v0.ownBlock ∨ v'.ownBlock = some w.heap.size) → K (a.put o.dst v') w') : o.wp P a w K Q := by
  obtain ⟨v', w', hrun, h2, h3, h4⟩ := run_append_sg L (w := w) o.type hown h h1 h63 hby hbase
  unfold Oper.wp execOp
  simp only [ho, resolve, invoke, builtin, Sem.run_bind, Sem.run_pure, Result.andThen_ok, List.map_toArray, List.map_cons, List.map_nil, hs, hx, hrun]
  exact hk v' w' h2 h3 h4

theorem wpList_append_sg (L : El P t e k bytes) {ops : Array Oper} {rest : List Oper} {o : Oper} {a : Act} {w : World} {Q : Exit → Act → World → Prop} (hgd : o.guard = none) (s x : Operand)
    (ho : o.op = .call { callee := .builtin .append, args := #[s, x], argTypes := #[t, t] })
    {base : Nat} {F : Nat → Prop} {v0 v : Value} {n m : Nat} {xs cs : List Value} (hs : a.eval s = v0) (hx : a.eval x = v) (hown : w.ownsRow base e k v0 n xs) (h : Sg w F k v m cs) (h1 : ∀ u ∈ cs, u.oneCell' = true)
    (h63 : n + m ≤ 9223372036854775807) (hby : (n + m) * bytes ≤ 140737488355328) (hbase : base ≤ w.heap.size)
    (hk : ∀ v' w', w'.ownsRow base e k v' (n + m) (xs ++ cs) → w.grownBy w' v0.ownBlock → (v'.ownBlock = v0.ownBlock ∨ v'.ownBlock = some w.heap.size) → wpList P ops Q rest (a.put o.dst v') w') : wpList P ops Q (o :: rest) a w :=
  wpList_plain hgd fun _ hK => wp_append_sg L s x ho hs hx hown h h1 h63 hby hbase fun v' w' h2 h3 h4 => hK _ _ (hk v' w' h2 h3 h4)

/-- in a region that draws, behind a guard that is met -/
theorem step_append_sg (L : El P t e k bytes) {ops : Array Oper} {o : Oper} {a : Act} {w : World} {K : Act → World → Prop} {Q : Exit → Act → World → Prop} {E : Prop} (hw : Region.wanted o (yielded ops a.tmps) = true) (s x : Operand)
    (ho : o.op = .call { callee := .builtin .append, args := #[s, x], argTypes := #[t, t] })
    {base : Nat} {F : Nat → Prop} {v0 v : Value} {n m : Nat} {xs cs : List Value} (hs : a.eval s = v0) (hx : a.eval x = v) (hown : w.ownsRow base e k v0 n xs) (h : Sg w F k v m cs) (h1 : ∀ u ∈ cs, u.oneCell' = true)
    (h63 : n + m ≤ 9223372036854775807) (hby : (n + m) * bytes ≤ 140737488355328) (hbase : base ≤ w.heap.size)
    (hk : ∀ v' w', w'.ownsRow base e k v' (n + m) (xs ++ cs) → w.grownBy w' v0.ownBlock → (v'.ownBlock = v0.ownBlock ∨ v'.ownBlock = some w.heap.size) → K (a.put o.dst v') w') :
    if Region.wanted o (yielded ops a.tmps) = true then Oper.wp P o a w K Q else E := by
  rw [if_pos hw]
  exact wp_append_sg L s x ho hs hx hown h h1 h63 hby hbase hk
end

/-- what the call owns stays so behind whatever turns nothing that was there -/
theorem own_below {w w' : World} {base k n : Nat} {e : TypeId} {v : Value} {xs : List Value} (h : w.ownsRow base e k v n xs) (hb : Below w.heap.size w w') : w'.ownsRow base e k v n xs := by
  have h0 := h
  refine ⟨h.1, ?_⟩
  rcases h.2 with hn | ⟨g, cap, cur, hv, hbs, hg, rest⟩
  · exact .inl hn
  · subst hv
    exact .inr ⟨g, cap, cur, rfl, hbs, (hb.block g (World.ownsRow.lt h0 g rfl).2).trans hg, rest⟩

/-- .. or nothing below a number under which its block lies -/
theorem own_under {w w' : World} {base k n B : Nat} {e : TypeId} {v : Value} {xs : List Value} (h : w.ownsRow base e k v n xs) (hb : Below B w w') (hlt : ∀ j, v.ownBlock = some j → j < B) : w'.ownsRow base e k v n xs := by
  refine ⟨h.1, ?_⟩
  rcases h.2 with hn | ⟨g, cap, cur, hv, hbs, hg, rest⟩
  · exact .inl hn
  · subst hv
    exact .inr ⟨g, cap, cur, rfl, hbs, (hb.block g (hlt g rfl)).trans hg, rest⟩

/-- .. and behind a store into another block -/
theorem own_set {w : World} {base k n : Nat} {e : TypeId} {v : Value} {xs : List Value} (h : w.ownsRow base e k v n xs) {p : Nat} (hp : p < base) (o : Nat) (u : Value) : (w.setCell ⟨p, o, none⟩ u).ownsRow base e k v n xs := by
  refine ⟨h.1, ?_⟩
  rcases h.2 with hn | ⟨g, cap, cur, hv, hbs, hg, rest⟩
  · exact .inl hn
  · exact .inr ⟨g, cap, cur, hv, hbs, (Below.heap_setCell w ⟨p, o, none⟩ u g (show g ≠ p by omega)).trans hg, rest⟩

/-- an append to what the call owns turns nothing below its own blocks -/
theorem below_base {w w' : World} {base k n : Nat} {e : TypeId} {v : Value} {xs : List Value} (hown : w.ownsRow base e k v n xs) (hB : base ≤ w.heap.size) (hg : w.grownBy w' v.ownBlock) : Below base w w' :=
  (Below.refl _ _).grown hg hB (fun j hj => (World.ownsRow.lt hown j hj).1)

/-- behind an append to what the call owns nothing older has turned -/
theorem below_app {w w1 w2 : World} {base k n : Nat} {e : TypeId} {v : Value} {xs : List Value} (hb : Below w.heap.size w w1) (hB : w.heap.size ≤ base) (hown : w1.ownsRow base e k v n xs) (hg : w1.grownBy w2 v.ownBlock) : Below w.heap.size w w2 :=
  hb.grown hg hb.size (fun j hj => Nat.le_trans hB (World.ownsRow.lt hown j hj).1)

/-- a slice of one element of one cell that was just laid (what 'append(s, x)' makes of x) -/
theorem Sg.one (w : World) (e : TypeId) (u : Value) : Sg (w.alloc (.cells #[u] e)) (fun b => b = w.heap.size) 1 (.slice (some ⟨w.heap.size, 0, none⟩) 1 1) 1 [u] :=
  ⟨rfl, _, 1, rfl, Nat.le_refl _, fun _ => ⟨_, rfl, rfl, fun j x hj => by
    match j, hj with
    | 0, hj =>
      cases hj
      rw [Addr.add_lit, World.cell?_alloc_mark]
      rfl⟩⟩

end Go.Proofs.Ythbnbifagenpiaa.S
