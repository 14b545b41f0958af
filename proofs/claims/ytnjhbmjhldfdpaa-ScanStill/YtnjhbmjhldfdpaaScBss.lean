/-
  Slices of slices of bytes.
-/
import Derived.Test.YtnjhbmjhldfdpaaScDds
namespace Go.Proofs.Ytnjhbmjhldfdpaa
open Go.RowKit

/-- the slice v holds slices of bytes, l, in blocks of which G holds -/
def Bss (w : World) (G : Nat → Prop) (v : Value) (l : List (List UInt8)) : Prop :=
  ∃ A cap, v = .slice A l.length cap ∧ l.length ≤ cap ∧ (∀ x ∈ l, x.length ≤ 9223372036854775807) ∧ (l ≠ [] → ∃ a, A = some a ∧ G a.block ∧
    ∀ i (h : i < l.length), ∃ vb, w.cell? (a.add i) = some vb ∧ SlB w G vb l[i])

section
variable {w w' : World} {G : Nat → Prop} {B : Nat} {v : Value} {l : List (List UInt8)}

theorem Bss.keep (h : Bss w G v l) (hk : ∀ p : Addr, G p.block → w'.cell? p = w.cell? p) : Bss w' G v l := by
  obtain ⟨A, cap, e, hc, ho, hx⟩ := h
  refine ⟨A, cap, e, hc, ho, fun hn => ?_⟩
  obtain ⟨a, e2, hg, hx⟩ := hx hn
  refine ⟨a, e2, hg, fun i hi => ?_⟩
  obtain ⟨vb, h0, hv⟩ := hx i hi
  exact ⟨vb, (hk _ (by rw [S.add_block]; exact hg)).trans h0, hv.keep hk⟩
theorem Bss.below (h : Bss w G v l) (hb : Below B w w') (hG : ∀ b, G b → b < B) : Bss w' G v l := h.keep fun _ hp => hb.cell (hG _ hp)
theorem Bss.nth (h : Bss w G v l) (i : Nat) (hi : i < l.length) : ∃ a cap vb, v = .slice (some a) l.length cap ∧ l.length ≤ cap ∧ G a.block ∧ l[i].length ≤ 9223372036854775807 ∧ w.cell? (a.add i) = some vb ∧ SlB w G vb l[i] := by
  obtain ⟨A, cap, e, hc, ho, hx⟩ := h
  obtain ⟨a, rfl, hG, hx⟩ := hx (fun e => by subst e; simp at hi)
  obtain ⟨vb, h0, hb⟩ := hx i hi
  exact ⟨a, cap, vb, e, hc, hG, ho _ (List.getElem_mem hi), h0, hb⟩
end

end Go.Proofs.Ytnjhbmjhldfdpaa
