/-
  Walks of layer ring's laws: the records that were appended, and the numbers behind them, beside both rings.
-/
import Derived.Test.YtfpojbnidoeohaaRgLaw5
import Derived.Deep.Cut
namespace Go.Proofs.Ytfpojbnidoeohaa
open Go.RowKit

def uV (l : List Nat) : List Value := l.map fun (n : Nat) => .int .u32 (n : Int)
theorem uV_length (l : List Nat) : (uV l).length = l.length := by simp [uV]
theorem uV_append (a b : List Nat) : uV (a ++ b) = uV a ++ uV b := by simp [uV]
theorem uV_one (l : List Nat) : ∀ u ∈ uV l, u.oneCell' = true := by
  intro u hu
  simp only [uV, List.mem_map] at hu
  obtain ⟨n, _, rfl⟩ := hu
  rfl
theorem uV_at (l : List Nat) (j : Nat) (h : j < l.length) : (uV l)[j]? = some (.int .u32 (l[j] : Int)) := by simp [uV, h]
abbrev SlU (w : World) (F : Nat → Prop) (v : Value) (l : List Nat) : Prop := S.Sg w F 1 v l.length (uV l)
theorem elU : S.El Try.prog 56 22 1 4 := info_el (z := .int .u32 0) Try.underlying56 (by kernel_rfl) rfl

theorem own_u {w : World} {base : Nat} {v : Value} {a b : List Nat} (h : w.ownsRow base 22 1 v (a.length + b.length) (uV a ++ uV b)) : w.ownsRow base 22 1 v (a ++ b).length (uV (a ++ b)) := by
  rw [uV_append, List.length_append]; exact h

theorem rg_apart {W : World} {b b' k k' n n' : Nat} {e e' : TypeId} {u v : Value} {xs ys : List Value} (h : W.ownsRow b e k u n xs) (h' : W.ownsRow b' e' k' v n' ys) (hne : e ≠ e') : u.ownBlock = none ∨ u.ownBlock ≠ v.ownBlock := by
  rcases h.2 with ⟨rfl, _⟩ | ⟨g, cap, cur, rfl, _, hg, _⟩
  · exact .inl rfl
  · refine .inr fun ex => ?_
    rcases h'.2 with ⟨rfl, _⟩ | ⟨g', cap', cur', rfl, _, hg', _⟩
    · cases ex
    · have e1 : g = g' := by simpa [Value.ownBlock] using ex
      subst e1
      rw [hg] at hg'
      cases hg'
      exact hne rfl

theorem turn_grown {w w' : World} {row : Option Nat} (hg : w.grownBy w' row) : Turn (fun b => row = some b) w w' := ⟨hg.os, hg.tape, hg.output, hg.size, fun k hk hF => hg.block k hk (fun e => hF e.symm)⟩

section
variable {H : World → (Nat → Prop) → Value → D.Dk → Prop}

/-- what the loop over deeds keeps: both rings; the records and the numbers behind them -/
structure RunL (H : World → (Nat → Prop) → Value → D.Dk → Prop) (w : World) (X : Nat) (v vd : Value) (r : G.Rg) (rs : List (List UInt8)) (es : List Nat) (s e : Value) (wr : World) : Prop where
  ex : ∃ F R, Lp6 H w X v vd F R r wr ∧ (∀ j, s.ownBlock = some j → ¬ F j ∧ ¬ R j ∧ j ≠ X) ∧ (∀ j, e.ownBlock = some j → ¬ F j ∧ ¬ R j ∧ j ≠ X)
  sr : wr.ownsRow w.heap.size 9 1 s rs.length (strV rs)
  er : wr.ownsRow w.heap.size 22 1 e es.length (uV es)

theorem RunL.below (K : DiskOk H) {w wr w2 : World} {X : Nat} {v vd s e : Value} {r : G.Rg} {rs : List (List UInt8)} {es : List Nat} (h : RunL H w X v vd r rs es s e wr) (hb : Below wr.heap.size wr w2) : RunL H w X v vd r rs es s e w2 := by
  obtain ⟨⟨F, R, hL, h1, h2⟩, hs, he⟩ := h
  exact ⟨⟨F, R, hL.below K hb, h1, h2⟩, S.own_below hs hb, S.own_below he hb⟩

/-- behind a deed -/
theorem RunL.did {w wr w2 : World} {X : Nat} {v vd s e : Value} {r' : G.Rg} {rs : List (List UInt8)} {es : List Nat} {F R F' R' : Nat → Prop} (h1 : ∀ j, s.ownBlock = some j → ¬ F j ∧ ¬ R j ∧ j ≠ X) (h2 : ∀ j, e.ownBlock = some j → ¬ F j ∧ ¬ R j ∧ j ≠ X)
    (hs : wr.ownsRow w.heap.size 9 1 s rs.length (strV rs)) (he : wr.ownsRow w.heap.size 22 1 e es.length (uV es)) (hL : Lp6 H w X v vd F' R' r' w2) (hF : ∀ b, b < wr.heap.size → F' b → F b) (hR : ∀ b, b < wr.heap.size → R' b → R b) (ht : Turn (fun b => F b ∨ b = X) wr w2) : RunL H w X v vd r' rs es s e w2 := by
  refine ⟨⟨F', R', hL, fun j hj => ?_, fun j hj => ?_⟩, V.own_keep hs fun j hj => ?_, V.own_keep he fun j hj => ?_⟩
  · have hl := (World.ownsRow.lt hs j hj).2
    exact ⟨fun g => (h1 j hj).1 (hF j hl g), fun g => (h1 j hj).2.1 (hR j hl g), (h1 j hj).2.2⟩
  · have hl := (World.ownsRow.lt he j hj).2
    exact ⟨fun g => (h2 j hj).1 (hF j hl g), fun g => (h2 j hj).2.1 (hR j hl g), (h2 j hj).2.2⟩
  · exact ht.block j (World.ownsRow.lt hs j hj).2 (fun g => g.elim (h1 j hj).1 (h1 j hj).2.2)
  · exact ht.block j (World.ownsRow.lt he j hj).2 (fun g => g.elim (h2 j hj).1 (h2 j hj).2.2)

/-- a record more -/
theorem RunL.pushS (K : DiskOk H) {w wr w2 : World} {X : Nat} {v vd s s' e : Value} {r : G.Rg} {rs : List (List UInt8)} {es : List Nat} {t : List UInt8} (h : RunL H w X v vd r rs es s e wr) (hg : wr.grownBy w2 s.ownBlock) (hs' : w2.ownsRow w.heap.size 9 1 s' (rs.length + 1) (strV rs ++ strV [t])) (ho : s'.ownBlock = s.ownBlock ∨ s'.ownBlock = some wr.heap.size) :
    RunL H w X v vd r (rs ++ [t]) es s' e w2 := by
  obtain ⟨⟨F, R, hL, h1, h2⟩, hs, he⟩ := h
  have ht := turn_grown hg
  obtain ⟨⟨x1, x2, x3, hB, hx⟩, _⟩ := id hL
  have hfl := hB.real.lt
  have hrl := hB.rlt
  have hxl := hx.lt
  refine ⟨⟨F, R, hL.turn K ht (fun b g e => (h1 b e).1 g) (fun b g e => (h1 b e).2.1 g) (fun e => (h1 X e).2.2 rfl) (fun b e => (World.ownsRow.lt hs b e).1), fun j hj => ?_, h2⟩, own_str (b := [t]) hs', World.ownsRow.kept he hg (rg_apart he hs (by decide))⟩
  rcases ho with ho | ho
  · rw [ho] at hj; exact h1 j hj
  · rw [ho] at hj
    cases hj
    exact ⟨fun g => by have := hfl _ g; omega, fun g => by have := hrl _ g; omega, by omega⟩

/-- a number more -/
theorem RunL.pushE (K : DiskOk H) {w wr w2 : World} {X : Nat} {v vd s e e' : Value} {r : G.Rg} {rs : List (List UInt8)} {es : List Nat} {t : Nat} (h : RunL H w X v vd r rs es s e wr) (hg : wr.grownBy w2 e.ownBlock) (he' : w2.ownsRow w.heap.size 22 1 e' (es.length + 1) (uV es ++ uV [t])) (ho : e'.ownBlock = e.ownBlock ∨ e'.ownBlock = some wr.heap.size) :
    RunL H w X v vd r rs (es ++ [t]) s e' w2 := by
  obtain ⟨⟨F, R, hL, h1, h2⟩, hs, he⟩ := h
  have ht := turn_grown hg
  obtain ⟨⟨x1, x2, x3, hB, hx⟩, _⟩ := id hL
  have hfl := hB.real.lt
  have hrl := hB.rlt
  have hxl := hx.lt
  refine ⟨⟨F, R, hL.turn K ht (fun b g e => (h2 b e).1 g) (fun b g e => (h2 b e).2.1 g) (fun e => (h2 X e).2.2 rfl) (fun b e => (World.ownsRow.lt he b e).1), h1, fun j hj => ?_⟩, World.ownsRow.kept hs hg (rg_apart hs he (by decide)), own_u (b := [t]) he'⟩
  rcases ho with ho | ho
  · rw [ho] at hj; exact h2 j hj
  · rw [ho] at hj
    cases hj
    exact ⟨fun g => by have := hfl _ g; omega, fun g => by have := hrl _ g; omega, by omega⟩
end

/-- the records that were appended, and the first number of each -/
def hstep (p : G.Rg × List (Nat × List UInt8)) (X : Dd) : G.Rg × List (Nat × List UInt8) := (p.1.step X, if X.kind = 1 ∧ p.1.err X.rc = 0 then p.2 ++ [(p.1.next, X.rc)] else p.2)
def hfold (r : G.Rg) (l : List Dd) : G.Rg × List (Nat × List UInt8) := l.foldl hstep (r, [])
theorem hfold_snoc (r : G.Rg) (l : List Dd) (X : Dd) : hfold r (l ++ [X]) = hstep (hfold r l) X := by simp [hfold]
theorem hfold_fst_aux (l : List Dd) : ∀ p : G.Rg × List (Nat × List UInt8), (l.foldl hstep p).1 = rsteps p.1 l := by
  induction l with
  | nil => intro p; rfl
  | cons X t ih => intro p; exact ih (hstep p X)
theorem hfold_fst (r : G.Rg) (l : List Dd) : (hfold r l).1 = rsteps r l := hfold_fst_aux l (r, [])
def hs6 (r : G.Rg) (l : List Dd) : List (Nat × List UInt8) := (hfold r l).2
theorem hs6_take (r : G.Rg) (l : List Dd) (k : Nat) (h : k < l.length) : hs6 r (l.take (k + 1)) = if l[k].kind = 1 ∧ (rsteps r (l.take k)).err l[k].rc = 0 then hs6 r (l.take k) ++ [((rsteps r (l.take k)).next, l[k].rc)] else hs6 r (l.take k) := by
  rw [hs6, List.take_succ_eq_append_getElem h, hfold_snoc, hstep, hfold_fst]
  rfl

theorem hist_step {r : G.Rg} {a : Nat} {hl : List (Nat × List UInt8)} (h : G.Hist r a hl) (X : Dd) : G.Hist (hstep (r, hl) X).1 a (hstep (r, hl) X).2 := by
  unfold hstep G.Rg.step
  by_cases h1 : X.kind = 1
  · by_cases h2 : r.err X.rc = 0
    · simp only [h1, h2, if_true, and_self]
      rw [append_ok h2]
      exact h.put h2
    · simp only [h1, h2, if_true, and_false, if_false]
      rw [append_no h2]
      exact h
  · simp only [h1, if_false, false_and]
    split
    · exact h.trunc _
    · exact h.sync
theorem hist_fold {a : Nat} (l : List Dd) : ∀ {p : G.Rg × List (Nat × List UInt8)}, G.Hist p.1 a p.2 → G.Hist (l.foldl hstep p).1 a (l.foldl hstep p).2 := by
  induction l with
  | nil => intro p h; exact h
  | cons X t ih => intro p h; exact ih (hist_step h X)
theorem hist_all {r : G.Rg} (h : r.May) (l : List Dd) : G.Hist (rsteps r l) r.next (hs6 r l) := by
  have := hist_fold (a := r.next) l (p := (r, [])) ⟨h, .nil _, fun x hx => by simp at hx, fun x hx => by simp at hx⟩
  rw [← hfold_fst]
  exact this

def recs (hl : List (Nat × List UInt8)) : List (List UInt8) := hl.map (·.2)
def ends (hl : List (Nat × List UInt8)) : List Nat := hl.map fun x => x.1 + R.many x.2.length

end Go.Proofs.Ytfpojbnidoeohaa
