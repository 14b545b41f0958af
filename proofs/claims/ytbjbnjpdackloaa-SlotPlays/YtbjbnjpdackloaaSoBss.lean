/-
  Walks of layer slot's laws: slices of slices of bytes; savings one behind the other, in a loop.
-/
import Derived.Test.YtbjbnjpdackloaaSoRow
namespace Go.Proofs.Ytbjbnjpdackloaa
open Go.RowKit

/-- the slice v holds slices of bytes, l, in blocks of which G holds -/
def Bs8 (w : World) (G : Nat → Prop) (v : Value) (l : List (List UInt8)) : Prop :=
  ∃ A cap, v = .slice A l.length cap ∧ l.length ≤ cap ∧ (∀ x ∈ l, x.length ≤ 140737488355328) ∧ (l ≠ [] → ∃ a, A = some a ∧ G a.block ∧
    ∀ i (h : i < l.length), ∃ vb, w.cell? (a.add i) = some vb ∧ SlB w G vb l[i])

section
variable {w w' : World} {G : Nat → Prop} {B : Nat} {v : Value} {l : List (List UInt8)}

theorem Bs8.keep (h : Bs8 w G v l) (hk : ∀ p : Addr, G p.block → w'.cell? p = w.cell? p) : Bs8 w' G v l := by
  obtain ⟨A, cap, e, hc, ho, hx⟩ := h
  refine ⟨A, cap, e, hc, ho, fun hn => ?_⟩
  obtain ⟨a, e2, hg, hx⟩ := hx hn
  refine ⟨a, e2, hg, fun i hi => ?_⟩
  obtain ⟨vb, h0, hv⟩ := hx i hi
  exact ⟨vb, (hk _ (by rw [S.add_block]; exact hg)).trans h0, hv.keep hk⟩
theorem Bs8.below (h : Bs8 w G v l) (hb : Below B w w') (hG : ∀ b, G b → b < B) : Bs8 w' G v l := h.keep fun _ hp => hb.cell (hG _ hp)
theorem Bs8.nth (h : Bs8 w G v l) (i : Nat) (hi : i < l.length) : ∃ a cap vb, v = .slice (some a) l.length cap ∧ l.length ≤ cap ∧ G a.block ∧ l[i].length ≤ 140737488355328 ∧ w.cell? (a.add i) = some vb ∧ SlB w G vb l[i] := by
  obtain ⟨A, cap, e, hc, ho, hx⟩ := h
  obtain ⟨a, rfl, hG, hx⟩ := hx (fun e => by subst e; simp at hi)
  obtain ⟨vb, h0, hb⟩ := hx i hi
  exact ⟨a, cap, vb, e, hc, hG, ho _ (List.getElem_mem hi), h0, hb⟩
end


theorem last_g (S : List (List UInt8)) : oG (Z.last S) = S.length := by
  unfold Z.last
  split
  · rename_i h; subst h; rfl
  · rfl
theorem last_s (S : List (List UInt8)) : (Z.last S).isSome = decide (0 < S.length) := by
  unfold Z.last
  split
  · rename_i h; subst h; rfl
  · rename_i h
    symm
    exact decide_eq_true (List.length_pos_iff.2 h)
theorem last_snoc (S : List (List UInt8)) (b : List UInt8) : Z.last (S ++ [b]) = some (S.length + 1, b) := by
  unfold Z.last
  rw [if_neg (by simp), List.length_append, List.length_singleton, Nat.add_sub_cancel, Z.getD_new]

/-- a disk behind so many savings: S those that were taken -/
structure Sv (H : World → (Nat → Prop) → Value → D.Dk → Prop) (w wr : World) (da : Addr) (d : D.Dk) (S : List (List UInt8)) (k : Nat) (F : Nat → Prop) : Prop where
  hd : H wr F (.pointer (some da)) d
  st : Z.St d 1 4 S
  len : d.secs.length = 12
  row : d.row.length ≤ 4 * k
  sl : S.length ≤ k
  low : Below w.heap.size w wr
  f : ∀ b, F b → w.heap.size ≤ b

section
variable {H : World → (Nat → Prop) → Value → D.Dk → Prop} {w wr : World} {da : Addr} {d : D.Dk} {S : List (List UInt8)} {k : Nat} {F : Nat → Prop}

/-- whether it is taken or not -/
theorem Sv.next (h : Sv H w wr da d S k F) (hk : k ≤ 100) {b : List UInt8} {w' w'' : World} {F' : Nat → Prop} (hb : Below wr.heap.size wr w') (hH : H w'' F' (.pointer (some da)) (if R.many b.length ≤ 4 then Z.save d 1 4 (S.length + 1) b else d)) (hF : ∀ b, F' b → F b ∨ Go.Proofs.Ytbjbnjpdackloaa.S.New w' w'' b) (ht : Turn F w' w'') :
    Sv H w w'' da (if R.many b.length ≤ 4 then Z.save d 1 4 (S.length + 1) b else d) (if R.many b.length ≤ 4 then S ++ [b] else S) (k + 1) F' := by
  have hs := hb.size
  have hl := h.low.size
  have low : Below w.heap.size w w'' := (below_two h.low hb).trans (ht.below (by omega) h.f)
  have hf : ∀ b, F' b → w.heap.size ≤ b := fun b g => (hF b g).elim (h.f b) (fun g => by have := g.1; omega)
  have hsl := h.sl
  have hr := h.row
  by_cases hm : R.many b.length ≤ 4
  · rw [if_pos hm] at hH
    rw [if_pos hm, if_pos hm]
    exact ⟨hH, h.st.save hm (by omega), (Z.save_len ..).trans h.len, by rw [Z.save_row h.st.may]; omega, by simp; omega, low, hf⟩
  · rw [if_neg hm] at hH
    rw [if_neg hm, if_neg hm]
    exact ⟨hH, h.st, h.len, by omega, by omega, low, hf⟩
end

end Go.Proofs.Ytbjbnjpdackloaa
