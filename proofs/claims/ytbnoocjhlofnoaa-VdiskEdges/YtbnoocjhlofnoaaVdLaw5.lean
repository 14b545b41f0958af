/-
  Walks of layer vdisk's laws: a disk of 8 sectors behind deeds.
-/
import Derived.Test.YtbnoocjhlofnoaaVdLaw4
namespace Go.Proofs.Ytbnoocjhlofnoaa
open Go.RowKit

theorem step_row (d : D.Dk) (x : Deed) : (d.step x).row.length ≤ d.row.length + 1 := by
  unfold D.Dk.step D.Dk.write
  repeat' split
  all_goals simp [D.Dk.sync, D.Dk.crash]
theorem step_len (d : D.Dk) (x : Deed) : (d.step x).secs.length = d.secs.length := by
  unfold D.Dk.step
  split
  · exact D.write_len _ _ _
  · split
    · exact D.sync_len _
    · split
      · exact D.crash_len _ _
      · rfl

def steps (d : D.Dk) (l : List Deed) : D.Dk := l.foldl D.Dk.step d
theorem steps_snoc (d : D.Dk) (l : List Deed) (x : Deed) : steps d (l ++ [x]) = (steps d l).step x := by simp [steps]
theorem steps_row (l : List Deed) : ∀ d : D.Dk, (steps d l).row.length ≤ d.row.length + l.length := by
  induction l with
  | nil => intro d; simp [steps]
  | cons x r ih => intro d; have h1 := ih (d.step x); have h2 := step_row d x; simp only [steps, List.foldl_cons, List.length_cons] at h1 ⊢; omega
theorem steps_len (l : List Deed) : ∀ d : D.Dk, (steps d l).secs.length = d.secs.length := by
  induction l with
  | nil => intro d; rfl
  | cons x r ih => intro d; have h1 := ih (d.step x); have h2 := step_len d x; simp only [steps, List.foldl_cons] at h1 ⊢; omega
theorem steps_take (d : D.Dk) (l : List Deed) (k : Nat) (h : k < l.length) : steps d (l.take (k + 1)) = (steps d (l.take k)).step l[k] := by
  rw [List.take_succ_eq_append_getElem h, steps_snoc]

def newD (n : Nat) : D.Dk := ⟨List.replicate n (D.full []), []⟩

section
variable {H : World → (Nat → Prop) → Value → D.Dk → Prop}

/-- what a loop over deeds keeps: both disks, the document's in the block X -/
structure Loop (H : World → (Nat → Prop) → Value → D.Dk → Prop) (w : World) (X : Nat) (v : Value) (d : D.Dk) (wr : World) : Prop where
  ex : ∃ (F R : Nat → Prop) (x1 x2 x3 : Value), Both H wr F R v (.agg #[x1, x2, x3]) d ∧ B3 wr X x1 x2 x3 ∧ ¬ F X ∧ ¬ R X ∧ (∀ b, F b → w.heap.size ≤ b)
  bel : Below w.heap.size w wr
  hX : w.heap.size ≤ X

/-- both disks, just made -/
theorem Loop.start (K : DiskOk H) {w w1 w2 : World} {v x : Value} {d : D.Dk} (h1 : H w1 (S.New w w1) v d) (hb1 : Below w.heap.size w w1) (h2 : Rd w2 (S.New w1 w2) x d) (hb2 : Below w1.heap.size w1 w2) :
    ∃ x1 x2 x3, x = .agg #[x1, x2, x3] ∧ Loop H w w2.heap.size v d (w2.alloc (.cells #[x1, x2, x3] 30)) := by
  obtain ⟨A1, e1, A2, e2, A3, e3, rfl⟩ := h2.form
  have hba := (Below.refl w2.heap.size w2).alloc (Nat.le_refl _) (.cells #[.slice A1 d.secs.length e1, .slice A2 d.row.length e2, .slice A3 d.row.length e3] 30)
  have hs1 := hb1.size
  have hs2 := hb2.size
  have hsa := hba.size
  refine ⟨_, _, _, rfl, ⟨S.New w w1, S.New w1 w2, _, _, _, ⟨K.below (K.below h1 hb2) hba, h2.below hba (fun b h => h.2), fun b h => Nat.lt_of_lt_of_le h.2 hsa, fun b h g => ?_⟩, B3.new w2 _ _ _ 30 rfl, fun h => ?_, fun h => ?_, fun b h => h.1⟩, below_two (below_two hb1 hb2) hba, by omega⟩
  · have := h.1; have := g.2; omega
  · have := h.2; omega
  · have := h.2; omega

/-- the document's disk laid into X -/
theorem Loop.put (K : DiskOk H) {w w2 : World} {X : Nat} {v : Value} {d' : D.Dk} {F' R' : Nat → Prop} {A1 A2 A3 : Option Addr} {n1 n2 n3 e1 e2 e3 : Nat} (hw : w.heap.size ≤ X) (hb : Below w.heap.size w w2) {x1 x2 x3 : Value} (hx : B3 w2 X x1 x2 x3) (nF : ¬ F' X) (nR : ¬ R' X) (hF : ∀ b, F' b → w.heap.size ≤ b)
    (h : Both H w2 F' R' v (.agg #[.slice A1 n1 e1, .slice A2 n2 e2, .slice A3 n3 e3]) d') :
    Loop H w X v d' (((w2.setCell ⟨X, 0, none⟩ (.slice A1 n1 e1)).setCell ⟨X, 1, none⟩ (.slice A2 n2 e2)).setCell ⟨X, 2, none⟩ (.slice A3 n3 e3)) := by
  have hx3 := hx.setAll (.slice A1 n1 e1) (.slice A2 n2 e2) (.slice A3 n3 e3)
  have h1 := K.set (K.set (K.set h.real nF 0 (.slice A1 n1 e1)) nF 1 (.slice A2 n2 e2)) nF 2 (.slice A3 n3 e3)
  have h2 := ((h.ref.set nR 0 (.slice A1 n1 e1)).set nR 1 (.slice A2 n2 e2)).set nR 2 (.slice A3 n3 e3)
  have h3 := ((hb.setCell (p := ⟨X, 0, none⟩) hw (.slice A1 n1 e1)).setCell (p := ⟨X, 1, none⟩) hw (.slice A2 n2 e2)).setCell (p := ⟨X, 2, none⟩) hw (.slice A3 n3 e3)
  have hz : (((w2.setCell ⟨X, 0, none⟩ (.slice A1 n1 e1)).setCell ⟨X, 1, none⟩ (.slice A2 n2 e2)).setCell ⟨X, 2, none⟩ (.slice A3 n3 e3)).heap.size = w2.heap.size := by simp [World.setCell]
  exact ⟨⟨F', R', _, _, _, ⟨h1, h2, fun b g => by rw [hz]; exact h.rlt b g, h.off⟩, hx3, nF, nR, hF⟩, h3, hw⟩

theorem Loop.below (K : DiskOk H) {w wr w2 : World} {X : Nat} {v : Value} {d : D.Dk} (h : Loop H w X v d wr) (hb : Below wr.heap.size wr w2) : Loop H w X v d w2 := by
  obtain ⟨⟨F, R, x1, x2, x3, hB, hx, nF, nR, hF⟩, hbl, hX⟩ := h
  exact ⟨⟨F, R, x1, x2, x3, ⟨K.below hB.real hb, hB.ref.below hb hB.rlt, fun b g => Nat.lt_of_lt_of_le (hB.rlt b g) hb.size, hB.off⟩, hx.step hb, nF, nR, hF⟩, below_two hbl hb, hX⟩

/-- behind a deed, its answer laid into a block of its own, and copied into X -/
theorem Loop.next (K : DiskOk H) {w wr w2 : World} {X : Nat} {v y : Value} {d' : D.Dk} {F R F' R' : Nat → Prop} (hX : X < wr.heap.size) (hw : w.heap.size ≤ X) (hb : Below w.heap.size w wr) {x1 x2 x3 : Value} (hx : B3 wr X x1 x2 x3) (nF : ¬ F X) (nR : ¬ R X) (hF : ∀ b, F b → w.heap.size ≤ b)
    (h : Both H w2 F' R' v y d') (hF' : ∀ b, F' b → F b ∨ S.New wr w2 b) (hR' : ∀ b, R' b → R b ∨ S.New wr w2 b) (ht : Turn F wr w2) :
    ∃ A1 n1 e1 A2 n2 e2 A3 n3 e3, y = .agg #[.slice A1 n1 e1, .slice A2 n2 e2, .slice A3 n3 e3] ∧ B3 w2 X x1 x2 x3 ∧ Below w.heap.size w w2 ∧ Loop H w X v d' ((((w2.setCell ⟨X, 0, none⟩ (.slice A1 n1 e1)).setCell ⟨X, 1, none⟩ (.slice A2 n2 e2)).setCell ⟨X, 2, none⟩ (.slice A3 n3 e3)).alloc (.cells #[.slice A1 n1 e1, .slice A2 n2 e2, .slice A3 n3 e3] 30)) := by
  obtain ⟨A1, e1, A2, e2, A3, e3, rfl⟩ := h.ref.form
  have hbw : Below w.heap.size w w2 := hb.trans (ht.below hb.size hF)
  have hx2 := hx.turn ht nF
  have nF' : ¬ F' X := fun g => (hF' X g).elim nF (fun g => by have := g.1; omega)
  have nR' : ¬ R' X := fun g => (hR' X g).elim nR (fun g => by have := g.1; omega)
  exact ⟨_, _, _, _, _, _, _, _, _, rfl, hx2, hbw, (Loop.put K hw hbw hx2 nF' nR' (fun b g => (hF' b g).elim (hF b) (fun g => by have := g.1; omega)) h).below K ((Below.refl _ _).alloc (Nat.le_refl _) _)⟩

/-- the same, the block for the answer made ahead of the deed -/
theorem Loop.next' (K : DiskOk H) {w wr w2 : World} {X Y : Nat} {v y : Value} {d' : D.Dk} {F R F' R' : Nat → Prop} (hX : X < wr.heap.size) (hw : w.heap.size ≤ X) (hXY : X < Y) (hb : Below w.heap.size w wr) {x1 x2 x3 z1 z2 z3 : Value} (hx : B3 wr X x1 x2 x3) (hy : B3 wr Y z1 z2 z3) (nF : ¬ F X) (nR : ¬ R X) (mF : ¬ F Y) (mR : ¬ R Y) (hF : ∀ b, F b → w.heap.size ≤ b)
    (h : Both H w2 F' R' v y d') (hF' : ∀ b, F' b → F b ∨ S.New wr w2 b) (hR' : ∀ b, R' b → R b ∨ S.New wr w2 b) (ht : Turn F wr w2) :
    ∃ A1 n1 e1 A2 n2 e2 A3 n3 e3, y = .agg #[.slice A1 n1 e1, .slice A2 n2 e2, .slice A3 n3 e3] ∧ B3 w2 X x1 x2 x3 ∧ B3 w2 Y z1 z2 z3 ∧ Below w.heap.size w w2 ∧
      Loop H w X v d' ((((((w2.setCell ⟨Y, 0, none⟩ (.slice A1 n1 e1)).setCell ⟨Y, 1, none⟩ (.slice A2 n2 e2)).setCell ⟨Y, 2, none⟩ (.slice A3 n3 e3)).setCell ⟨X, 0, none⟩ (.slice A1 n1 e1)).setCell ⟨X, 1, none⟩ (.slice A2 n2 e2)).setCell ⟨X, 2, none⟩ (.slice A3 n3 e3)) := by
  obtain ⟨A1, e1, A2, e2, A3, e3, rfl⟩ := h.ref.form
  have hbw : Below w.heap.size w w2 := hb.trans (ht.below hb.size hF)
  have hx2 := hx.turn ht nF
  have hy2 := hy.turn ht mF
  have hyl := hy.lt
  have nF' : ¬ F' X := fun g => (hF' X g).elim nF (fun g => by have := g.1; omega)
  have nR' : ¬ R' X := fun g => (hR' X g).elim nR (fun g => by have := g.1; omega)
  have mF' : ¬ F' Y := fun g => (hF' Y g).elim mF (fun g => by have := g.1; omega)
  have mR' : ¬ R' Y := fun g => (hR' Y g).elim mR (fun g => by have := g.1; omega)
  refine ⟨_, _, _, _, _, _, _, _, _, rfl, hx2, hy2, hbw, ?_⟩
  have h1 := K.set (K.set (K.set h.real mF' 0 (.slice A1 d'.secs.length e1)) mF' 1 (.slice A2 d'.row.length e2)) mF' 2 (.slice A3 d'.row.length e3)
  have h2 := ((h.ref.set mR' 0 (.slice A1 d'.secs.length e1)).set mR' 1 (.slice A2 d'.row.length e2)).set mR' 2 (.slice A3 d'.row.length e3)
  have h3 := ((hbw.setCell (p := ⟨Y, 0, none⟩) (by show _ ≤ Y; omega) (.slice A1 d'.secs.length e1)).setCell (p := ⟨Y, 1, none⟩) (by show _ ≤ Y; omega) (.slice A2 d'.row.length e2)).setCell (p := ⟨Y, 2, none⟩) (by show _ ≤ Y; omega) (.slice A3 d'.row.length e3)
  have hx3 := ((hx2.other (q := Y) (by omega) 0 (.slice A1 d'.secs.length e1)).other (q := Y) (by omega) 1 (.slice A2 d'.row.length e2)).other (q := Y) (by omega) 2 (.slice A3 d'.row.length e3)
  have hz : (((w2.setCell ⟨Y, 0, none⟩ (.slice A1 d'.secs.length e1)).setCell ⟨Y, 1, none⟩ (.slice A2 d'.row.length e2)).setCell ⟨Y, 2, none⟩ (.slice A3 d'.row.length e3)).heap.size = w2.heap.size := by simp [World.setCell]
  exact Loop.put K hw h3 hx3 nF' nR' (fun b g => (hF' b g).elim (hF b) (fun g => by have := g.1; omega)) ⟨h1, h2, fun b g => by rw [hz]; exact h.rlt b g, h.off⟩

end

end Go.Proofs.Ytbnoocjhlofnoaa
