/-
  Deeds of layer chain's laws in memory.
-/
import Derived.Test.YtgbicdaljnegfaaSlTypes
namespace Go.Proofs.Ytgbicdaljnegfaa
open Go.RowKit

/-- a deed -/
structure Dd10 where
  kind : Int
  ts : Int
  val : ByteArray

structure Dd10.Ok (x : Dd10) : Prop where
  k0 : -9223372036854775808 ≤ x.kind
  k1 : x.kind ≤ 9223372036854775807
  t0 : -9223372036854775808 ≤ x.ts
  t1 : x.ts ≤ 9223372036854775807

/-- the slice v holds the deeds l, in blocks of which G holds -/
def Dds10 (w : World) (G : Nat → Prop) (v : Value) (l : List Dd10) : Prop :=
  ∃ A cap, v = .slice A l.length cap ∧ l.length ≤ cap ∧ (∀ x ∈ l, x.Ok) ∧ (l ≠ [] → ∃ a, A = some a ∧ G a.block ∧
    ∀ i (h : i < l.length), w.cell? (a.add (i * 3)) = some (.int .i64 l[i].kind) ∧ w.cell? (a.add (i * 3 + 1)) = some (.int .i64 l[i].ts) ∧ w.cell? (a.add (i * 3 + 2)) = some (.string l[i].val))

theorem Dds10.keep {w w' : World} {G : Nat → Prop} {v : Value} {l : List Dd10} (h : Dds10 w G v l) (hk : ∀ p : Addr, G p.block → w'.cell? p = w.cell? p) : Dds10 w' G v l := by
  obtain ⟨A, cap, e, hc, ho, hx⟩ := h
  refine ⟨A, cap, e, hc, ho, fun hn => ?_⟩
  obtain ⟨a, e2, hg, hx⟩ := hx hn
  refine ⟨a, e2, hg, fun i hi => ?_⟩
  have hb : ∀ j, w'.cell? (a.add j) = w.cell? (a.add j) := fun j => hk _ (by rw [S.add_block]; exact hg)
  exact ⟨(hb _).trans (hx i hi).1, (hb _).trans (hx i hi).2.1, (hb _).trans (hx i hi).2.2⟩
theorem Dds10.below {w w' : World} {G : Nat → Prop} {B : Nat} {v : Value} {l : List Dd10} (h : Dds10 w G v l) (hb : Below B w w') (hG : ∀ b, G b → b < B) : Dds10 w' G v l := h.keep fun _ hp => hb.cell (hG _ hp)
theorem Dds10.form {w : World} {G : Nat → Prop} {v : Value} {l : List Dd10} (h : Dds10 w G v l) : ∃ A cap, v = .slice A l.length cap ∧ l.length ≤ cap := by
  obtain ⟨A, cap, e, hc, _⟩ := h
  exact ⟨A, cap, e, hc⟩

/-- one deed's cells, as a walk writes their places -/
theorem Dds10.nth {w : World} {G : Nat → Prop} {v : Value} {l : List Dd10} (h : Dds10 w G v l) (i : Nat) (hi : i < l.length) : ∃ a cap, v = .slice (some a) l.length cap ∧ l.length ≤ cap ∧ G a.block ∧ l[i].Ok ∧
    w.cell? (a.add (i * 3)) = some (.int .i64 l[i].kind) ∧ w.cell? ⟨(a.add (i * 3)).block, (a.add (i * 3)).off + 1, none⟩ = some (.int .i64 l[i].ts) ∧ w.cell? ⟨(a.add (i * 3)).block, (a.add (i * 3)).off + 2, none⟩ = some (.string l[i].val) := by
  obtain ⟨A, cap, e1, hc, ho, hx⟩ := h
  obtain ⟨a, rfl, hG, hx⟩ := hx (fun e => by subst e; simp at hi)
  obtain ⟨h0, h1, h2⟩ := hx i hi
  have e : ∀ (q : Addr) (j : Nat), (⟨q.block, q.off + (j + 1), none⟩ : Addr) = q.add (j + 1) := fun q j => by simp [Addr.add]
  exact ⟨a, cap, e1, hc, hG, ho _ (List.getElem_mem hi), h0, by rw [e _ 0, S.add_add]; exact h1, by rw [e _ 1, S.add_add]; exact h2⟩

/-- a version of it at a later world -/
theorem three_keep {w w1 : World} {B : Nat} {p : Addr} {u0 u1 u2 : Value} (hb : Below B w w1) (hp : p.block < B) (h : w.cell? p = some u0 ∧ w.cell? ⟨p.block, p.off + 1, none⟩ = some u1 ∧ w.cell? ⟨p.block, p.off + 2, none⟩ = some u2) :
    w1.cell? p = some u0 ∧ w1.cell? ⟨p.block, p.off + 1, none⟩ = some u1 ∧ w1.cell? ⟨p.block, p.off + 2, none⟩ = some u2 :=
  ⟨(hb.cell hp).trans h.1, (hb.cell (p := ⟨p.block, p.off + 1, none⟩) hp).trans h.2.1, (hb.cell (p := ⟨p.block, p.off + 2, none⟩) hp).trans h.2.2⟩

theorem three_back {w w1 : World} {B : Nat} {p : Addr} {u0 u1 u2 : Value} (hb : Below B w w1) (hp : p.block < B) (h : w1.cell? p = some u0 ∧ w1.cell? ⟨p.block, p.off + 1, none⟩ = some u1 ∧ w1.cell? ⟨p.block, p.off + 2, none⟩ = some u2) :
    w.cell? p = some u0 ∧ w.cell? ⟨p.block, p.off + 1, none⟩ = some u1 ∧ w.cell? ⟨p.block, p.off + 2, none⟩ = some u2 :=
  ⟨(hb.cell hp).symm.trans h.1, (hb.cell (p := ⟨p.block, p.off + 1, none⟩) hp).symm.trans h.2.1, (hb.cell (p := ⟨p.block, p.off + 2, none⟩) hp).symm.trans h.2.2⟩

end Go.Proofs.Ytgbicdaljnegfaa
