/-
  Deeds of layer stamp's laws in memory.
-/
import Derived.Test.YtcndghkeondbpaaSlTypes
namespace Go.Proofs.Ytcndghkeondbpaa
open Go.RowKit

/-- a deed -/
structure Dd9 where
  kind : Int
  n : Int

structure Dd9.Ok (x : Dd9) : Prop where
  k0 : -9223372036854775808 ≤ x.kind
  k1 : x.kind ≤ 9223372036854775807
  n0 : -9223372036854775808 ≤ x.n
  n1 : x.n ≤ 9223372036854775807

/-- the slice v holds the deeds l, in blocks of which G holds -/
def Dds9 (w : World) (G : Nat → Prop) (v : Value) (l : List Dd9) : Prop :=
  ∃ A cap, v = .slice A l.length cap ∧ l.length ≤ cap ∧ (∀ x ∈ l, x.Ok) ∧ (l ≠ [] → ∃ a, A = some a ∧ G a.block ∧
    ∀ i (h : i < l.length), w.cell? (a.add (i * 2)) = some (.int .i64 l[i].kind) ∧ w.cell? (a.add (i * 2 + 1)) = some (.int .i64 l[i].n))

theorem Dds9.keep {w w' : World} {G : Nat → Prop} {v : Value} {l : List Dd9} (h : Dds9 w G v l) (hk : ∀ p : Addr, G p.block → w'.cell? p = w.cell? p) : Dds9 w' G v l := by
  obtain ⟨A, cap, e, hc, ho, hx⟩ := h
  refine ⟨A, cap, e, hc, ho, fun hn => ?_⟩
  obtain ⟨a, e2, hg, hx⟩ := hx hn
  refine ⟨a, e2, hg, fun i hi => ?_⟩
  have hb : ∀ j, w'.cell? (a.add j) = w.cell? (a.add j) := fun j => hk _ (by rw [S.add_block]; exact hg)
  exact ⟨(hb _).trans (hx i hi).1, (hb _).trans (hx i hi).2⟩
theorem Dds9.below {w w' : World} {G : Nat → Prop} {B : Nat} {v : Value} {l : List Dd9} (h : Dds9 w G v l) (hb : Below B w w') (hG : ∀ b, G b → b < B) : Dds9 w' G v l := h.keep fun _ hp => hb.cell (hG _ hp)
theorem Dds9.form {w : World} {G : Nat → Prop} {v : Value} {l : List Dd9} (h : Dds9 w G v l) : ∃ A cap, v = .slice A l.length cap ∧ l.length ≤ cap := by
  obtain ⟨A, cap, e, hc, _⟩ := h
  exact ⟨A, cap, e, hc⟩

/-- one deed's cells, as a walk writes their places -/
theorem Dds9.nth {w : World} {G : Nat → Prop} {v : Value} {l : List Dd9} (h : Dds9 w G v l) (i : Nat) (hi : i < l.length) : ∃ a cap, v = .slice (some a) l.length cap ∧ l.length ≤ cap ∧ G a.block ∧ l[i].Ok ∧
    w.cell? (a.add (i * 2)) = some (.int .i64 l[i].kind) ∧ w.cell? ⟨(a.add (i * 2)).block, (a.add (i * 2)).off + 1, none⟩ = some (.int .i64 l[i].n) := by
  obtain ⟨A, cap, e, hc, ho, hx⟩ := h
  obtain ⟨a, rfl, hG, hx⟩ := hx (fun e => by subst e; simp at hi)
  obtain ⟨h0, h1⟩ := hx i hi
  refine ⟨a, cap, e, hc, hG, ho _ (List.getElem_mem hi), h0, ?_⟩
  have e : ∀ q : Addr, (⟨q.block, q.off + 1, none⟩ : Addr) = q.add 1 := fun q => by simp [Addr.add]
  rw [e, S.add_add]; exact h1

end Go.Proofs.Ytcndghkeondbpaa
