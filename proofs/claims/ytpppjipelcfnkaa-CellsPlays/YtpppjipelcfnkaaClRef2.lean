/-
  Walks of the document's cells: Set.
-/
import Derived.Test.YtpppjipelcfnkaaClRef1
namespace Go.Proofs.Ytpppjipelcfnkaa.Cl

theorem tw_stop {X : Cs} {k : Ky} {n : Nat} (h : ∀ j (hj : j < X.length), j < n → ahead k X[j] = true) (hn : n ≤ X.length) (hs : ∀ (hj : n < X.length), ahead k X[n] = false) : X.takeWhile (ahead k) = X.take n ∧ X.dropWhile (ahead k) = X.drop n := by
  have ht : ∀ p ∈ X.take n, ahead k p = true := fun p hp => by
    obtain ⟨j, hj, rfl⟩ := List.getElem_of_mem hp
    have hj' : j < n := by simp at hj; omega
    rw [List.getElem_take]
    exact h j (by omega) hj'
  have e1 : X.takeWhile (ahead k) = X.take n ++ (X.drop n).takeWhile (ahead k) := by
    conv => lhs; rw [← List.take_append_drop n X]
    exact List.takeWhile_append_of_pos ht
  have e2 : X.dropWhile (ahead k) = (X.drop n).dropWhile (ahead k) := by
    conv => lhs; rw [← List.take_append_drop n X]
    exact List.dropWhile_append_of_pos ht
  rw [e1, e2]
  by_cases hl : n < X.length
  · rw [List.drop_eq_getElem_cons hl, List.takeWhile_cons, List.dropWhile_cons, if_neg (by rw [hs hl]; simp), if_neg (by rw [hs hl]; simp), List.append_nil]
    exact ⟨rfl, rfl⟩
  · rw [List.drop_of_length_le (by omega)]
    exact ⟨by simp, rfl⟩
end Go.Proofs.Ytpppjipelcfnkaa.Cl

namespace Go.Proofs.Ytpppjipelcfnkaa
open Go.RowKit

/-- the four cells of a key and a chain's slice -/
def clC (p : Cl.Ky × Value) : List Value := [.int .i64 p.1.kind, .int .i64 p.1.a, .int .i64 p.1.b, p.2]
theorem elCl : S.El Try.prog 27 42 4 48 := by
  obtain ⟨i0, hi, hz0, hz1, hz2⟩ := info_parts (show (Try.prog.info? 42).map (fun i => (i.zero, i.size, i.bytes)) = some (some (.agg #[.int .i64 0, .int .i64 0, .int .i64 0, .slice none 0 0]), 4, 48) by kernel_rfl)
  exact ⟨Try.underlying27, ⟨i0, _, hi, hz0, hz1, hz2, rfl⟩, by decide⟩
theorem four_one11 (k : Cl.Ky) (A : Option Addr) (n c : Nat) : ∀ x ∈ clC (k, .slice A n c), x.oneCell' = true := by
  intro u hu
  simp only [clC, List.mem_cons, List.not_mem_nil, or_false] at hu
  rcases hu with rfl | rfl | rfl | rfl <;> rfl

theorem SlC.back {w w' : World} {F : Nat → Prop} {v : Value} {c : Cn.Ch} (h : SlC w' F v c) (hb : Below w.heap.size w w') (hF : ∀ b, F b → b < w.heap.size) : SlC w F v c := S.Sg.keep h (fun _ hp => (hb.cell (hF _ hp)).symm)

/-- cells on their way: a row of one's own, whose chains lay there ahead -/
structure Rw11 (w wr : World) (r : Value) (ps : List (Cl.Ky × Value)) (L : Cl.Cs) (F : Nat → Prop) : Prop where
  row : wr.ownsRow w.heap.size 42 4 r L.length (ps.flatMap clC)
  low : Below w.heap.size w wr
  len : ps.length = L.length
  is : ∀ i (h : i < L.length) (h' : i < ps.length), ps[i].1 = L[i].1 ∧ SlC w F ps[i].2 L[i].2 ∧ L[i].2.length ≤ 1000

section
variable {w wr w2 : World} {r r' : Value} {ps : List (Cl.Ky × Value)} {L : Cl.Cs} {F : Nat → Prop} {p : Cl.Ky × Value}
theorem Rw11.start (w : World) (F : Nat → Prop) : Rw11 w w (.slice none 0 0) [] [] F := ⟨S.own_nil .., Below.refl _ _, rfl, fun _ h => absurd h (Nat.not_lt_zero _)⟩
theorem Rw11.below (h : Rw11 w wr r ps L F) (hb : Below wr.heap.size wr w2) : Rw11 w w2 r ps L F := ⟨S.own_below h.row hb, below_two h.low hb, h.len, h.is⟩
/-- one more -/
theorem Rw11.push (h : Rw11 w wr r ps L F) (hown : w2.ownsRow w.heap.size 42 4 r' (L.length + 1) (ps.flatMap clC ++ clC p)) (hlow : Below w.heap.size w w2) {c : Cn.Ch} (hc : SlC w F p.2 c) (hcl : c.length ≤ 1000) : Rw11 w w2 r' (ps ++ [p]) (L ++ [(p.1, c)]) F where
  row := by
    rw [List.length_append, List.flatMap_append]
    simpa using hown
  low := hlow
  len := by simp [h.len]
  is := fun i hi h' => by
    have hl := h.len
    by_cases hi2 : i < L.length
    · rw [List.getElem_append_left (by omega), List.getElem_append_left hi2]
      exact h.is i hi2 (by omega)
    · have ei : i = L.length := by simp at hi; omega
      subst ei
      have e1 : (ps ++ [p])[L.length] = p := by rw [List.getElem_append_right (by omega)]; simp [hl]
      have e2 : (L ++ [(p.1, c)])[L.length] = (p.1, c) := by rw [List.getElem_append_right (by omega)]; simp
      rw [e1, e2]
      exact ⟨rfl, hc, hcl⟩
/-- at the end -/
theorem Rw11.fin (h : Rw11 w wr r ps L F) (hF : ∀ b, F b → b < w.heap.size) : Cls wr (fun b => F b ∨ S.New w wr b) r L := by
  have hs := S.Sg.of_own h.row
  obtain ⟨hl, A, cap, e, hc, hx⟩ := hs
  refine ⟨A, cap, e, hc, fun p hp => ?_, fun hn => ?_⟩
  · obtain ⟨i, hi, rfl⟩ := List.getElem_of_mem hp
    exact (h.is i hi (by rw [h.len]; exact hi)).2.2
  · obtain ⟨a, e2, hF2, hx⟩ := hx (fun e0 => hn (List.length_eq_zero_iff.1 e0))
    refine ⟨a, e2, Or.inr hF2, fun i hi => ?_⟩
    have hi' : i < ps.length := by rw [h.len]; exact hi
    obtain ⟨k1, k2, _⟩ := h.is i hi hi'
    have q (j : Nat) (hj : j < 4) : wr.cell? (a.add (i * 4 + j)) = (clC ps[i])[j]? := by
      have := V.flat_at (f := clC) (m := 4) ps (fun _ _ => rfl) i hi' j hj
      rw [← this]
      have hl2 : i * 4 + j < (ps.flatMap clC).length := by rw [hl]; omega
      rw [hx (i * 4 + j) _ (List.getElem?_eq_getElem hl2)]
      exact (List.getElem?_eq_getElem hl2).symm
    refine ⟨ps[i].2, ?_, ?_, ?_, q 3 (by decide), (k2.below h.low hF).wider (fun b q => Or.inl q)⟩
    · rw [← k1]; exact q 0 (by decide)
    · rw [← k1]; exact q 1 (by decide)
    · rw [← k1]; exact q 2 (by decide)
end

end Go.Proofs.Ytpppjipelcfnkaa
