/-
  append onto a slice without room (its head cut with three indices, or a whole one), whoever owns it: a new row; append of nothing.
-/
import Derived.Test.YtmlocdfjjgbnjaaJA
import Derived.ArgAppend
import Derived.Deep.Upon
namespace Go.Proofs.Ytmlocdfjjgbnjaa.S
open Go.RowKit

section
variable {P : Program} {t e : TypeId} {k bytes : Nat}

theorem run_append_full (L : El P t e k bytes) {w : World} {F G : Nat → Prop} {v0 v : Value} {n m : Nat} {xs cs : List Value} (ty : TypeId) (h0 : Sg w F k v0 n xs) (hcap : ∀ A c, v0 = .slice A n c → c < n + m) (hn : 0 < n) (hm : 0 < m) (h : Sg w G k v m cs)
    (h63 : n + m ≤ 140737488351232) (hby : (n + m) * bytes ≤ 140737488355328) :
    ∃ v' w', (Builtin.append_ #[t, t] ty #[v0, v]).run P w = .ok v' w' ∧ w'.ownsRow w.heap.size e k v' (n + m) (xs ++ cs) ∧ Below w.heap.size w w' := by
  obtain ⟨i, z, hi, hz0, hz1, hz2, hz3⟩ := L.info
  obtain ⟨hl0, A0, cap0, rfl, hc0, hx0⟩ := h0
  obtain ⟨hl, A, cap, rfl, hc, hx⟩ := h
  obtain ⟨a0, rfl, _, hx0⟩ := hx0 (by omega)
  obtain ⟨a, rfl, _, hx⟩ := hx (by omega)
  obtain ⟨v', w', h1, h2, h3⟩ := run_append_arg_grows (P := P) w t ty e i z k bytes L.und hi hz0 hz1 hz2 hz3 L.pos a0 n cap0 xs hl0 hx0 a m cap cs hl hx (hcap _ _ rfl) (by unfold maxLen; omega) hby
  exact ⟨v', w', h1, h2, ⟨h3.os, h3.tape, h3.output, h3.size, fun j hj => h3.block j hj (fun e => by cases e)⟩⟩

theorem wpList_append_full (L : El P t e k bytes) {ops : Array Oper} {rest : List Oper} {o : Oper} {a : Act} {w : World} {Q : Exit → Act → World → Prop} (hgd : o.guard = none) (s x : Operand)
    (ho : o.op = .call { callee := .builtin .append, args := #[s, x], argTypes := #[t, t] })
    {F G : Nat → Prop} {v0 v : Value} {n m : Nat} {xs cs : List Value} (hs : a.eval s = v0) (hx : a.eval x = v) (h0 : Sg w F k v0 n xs) (hcap : ∀ A c, v0 = .slice A n c → c < n + m) (hn : 0 < n) (hm : 0 < m) (h : Sg w G k v m cs)
    (h63 : n + m ≤ 140737488351232) (hby : (n + m) * bytes ≤ 140737488355328)
    (hk : ∀ v' w', w'.ownsRow w.heap.size e k v' (n + m) (xs ++ cs) → Below w.heap.size w w' → wpList P ops Q rest (a.put o.dst v') w') : wpList P ops Q (o :: rest) a w :=
  wpList_plain hgd fun _ hK => by
    obtain ⟨v', w', hrun, h2, h3⟩ := run_append_full L (w := w) o.type h0 hcap hn hm h h63 hby
    unfold Oper.wp execOp
    simp only [ho, resolve, invoke, builtin, Sem.run_bind, Sem.run_pure, Result.andThen_ok, List.map_toArray, List.map_cons, List.map_nil, hs, hx, hrun]
    exact hK _ _ (hk v' w' h2 h3)
end

end Go.Proofs.Ytmlocdfjjgbnjaa.S
