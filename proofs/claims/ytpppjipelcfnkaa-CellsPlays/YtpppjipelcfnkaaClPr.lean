/-
  Pairs of bytes in memory.
-/
import Derived.Test.YtpppjipelcfnkaaJA
namespace Go.Proofs.Ytpppjipelcfnkaa
open Go.RowKit

/-- pairs of bytes in memory -/
def prC (p : UInt8 × UInt8) : List Value := [.int .u8 (p.1.toNat : Int), .int .u8 (p.2.toNat : Int)]
abbrev Prs (w : World) (G : Nat → Prop) (v : Value) (l : List (UInt8 × UInt8)) : Prop := S.Sg w G 2 v l.length (l.flatMap prC)
theorem Prs.nth {w : World} {F : Nat → Prop} {v : Value} {l : List (UInt8 × UInt8)} (h : Prs w F v l) (i : Nat) (hi : i < l.length) : ∃ a cap, v = .slice (some a) l.length cap ∧ l.length ≤ cap ∧ F a.block ∧
    w.cell? (a.add (i * 2)) = some (.int .u8 (l[i].1.toNat : Int)) ∧ w.cell? ⟨(a.add (i * 2)).block, (a.add (i * 2)).off + 1, none⟩ = some (.int .u8 (l[i].2.toNat : Int)) := by
  obtain ⟨hl0, A, cap, e, hc, hx⟩ := h
  obtain ⟨a, rfl, hF, hx⟩ := hx (by intro e; rw [e] at hi; simp at hi)
  have q (j : Nat) (hj : j < 2) : w.cell? (a.add (i * 2 + j)) = (prC l[i])[j]? := by
    have := V.flat_at (f := prC) (m := 2) l (fun _ _ => rfl) i hi j hj
    rw [← this]
    have hl : i * 2 + j < (l.flatMap prC).length := by rw [hl0]; omega
    rw [hx (i * 2 + j) _ (List.getElem?_eq_getElem hl)]
    exact (List.getElem?_eq_getElem hl).symm
  have e1 : ∀ (p : Addr) (j : Nat), (⟨p.block, p.off + (j + 1), none⟩ : Addr) = p.add (j + 1) := fun p j => by simp [Addr.add]
  refine ⟨a, cap, e, hc, hF, q 0 (by decide), ?_⟩
  rw [e1 _ 0, S.add_add]; exact q 1 (by decide)

end Go.Proofs.Ytpppjipelcfnkaa
