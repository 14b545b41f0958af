/-
  Sweep, over whatever the cells' type means: the object turned since w in blocks of F and new ones, and rows that lie apart from it (Sq).
-/
import Derived.Test.YtmlocdfjjgbnjaaSwLaw3
import Derived.Test.YtmlocdfjjgbnjaaJS
namespace Go.Proofs.Ytmlocdfjjgbnjaa
open Go.RowKit

section
/-- the object v, that held blocks of F at w, holds Z now; the rows R lie apart from it -/
def Sq (H : World → (Nat → Prop) → Value → Cl.Cs → Prop) (w wr : World) (F : Nat → Prop) (v : Value) (Z : Cl.Cs) (R : List Row11) : Prop :=
  ∃ F', H wr F' v Z ∧ (∀ b, F' b → More F w wr b) ∧ (∀ r ∈ R, S.Sg wr (Out F' wr) r.k r.v r.n r.cs) ∧ Turn F w wr
variable {H : World → (Nat → Prop) → Value → Cl.Cs → Prop} {w wr w2 : World} {F : Nat → Prop} {v : Value} {X Z : Cl.Cs} {R : List Row11}

theorem Sq.start (h : H w F v X) (hR : ∀ r ∈ R, S.Sg w (Out F w) r.k r.v r.n r.cs) : Sq H w w F v X R := ⟨F, h, fun _ g => Or.inl g, hR, Turn.refl F w⟩
theorem Sq.turn (h : Sq H w wr F v Z R) : Turn F w wr := by obtain ⟨F', _, _, _, h4⟩ := h; exact h4
theorem Sq.low (K : CellsOk H) (h : Sq H w wr F v Z R) (hb : Below wr.heap.size wr w2) : Sq H w w2 F v Z R := by
  obtain ⟨F', h1, h2, h3, h4⟩ := h
  exact ⟨F', K.below h1 hb, fun b g => (h2 b g).elim Or.inl (fun q => Or.inr ⟨q.1, Nat.lt_of_lt_of_le q.2 hb.size⟩), fun r q => (S.Sg.below (h3 r q) hb (fun b g => g.1)).wider (fun b g => ⟨Nat.lt_of_lt_of_le g.1 hb.size, g.2⟩), h4.trans' hb⟩
theorem Sq.add (K : CellsOk H) (h : Sq H w wr F v Z R) (hb : Below wr.heap.size wr w2) (r : Row11) (hr : S.Sg w2 (S.New wr w2) r.k r.v r.n r.cs) : Sq H w w2 F v Z (r :: R) := by
  obtain ⟨F'', k1, k2, k3, k4⟩ := h
  have e : ∀ b, Out F'' wr b → Out F'' w2 b := fun b g => ⟨Nat.lt_of_lt_of_le g.1 hb.size, g.2⟩
  refine ⟨F'', K.below k1 hb, fun b g => (k2 b g).elim Or.inl (fun q => Or.inr ⟨q.1, Nat.lt_of_lt_of_le q.2 hb.size⟩), fun r' q => ?_, k4.trans' hb⟩
  rcases List.mem_cons.1 q with rfl | q
  · exact hr.wider (fun b g => Out.made g (K.lt k1))
  · exact (S.Sg.below (k3 r' q) hb (fun b g => g.1)).wider e
theorem Sq.less (h : Sq H w wr F v Z R) {R' : List Row11} (hR : ∀ r ∈ R', r ∈ R) : Sq H w wr F v Z R' := by
  obtain ⟨F', h1, h2, h3, h4⟩ := h
  exact ⟨F', h1, h2, fun r q => h3 r (hR r q), h4⟩
theorem Sq.row (h : Sq H w wr F v Z R) {r : Row11} (hr : r ∈ R) : ∃ G : Nat → Prop, S.Sg wr G r.k r.v r.n r.cs ∧ ∀ b, G b → b < wr.heap.size := by
  obtain ⟨F', _, _, h3, _⟩ := h
  exact ⟨_, h3 r hr, fun b q => q.1⟩
theorem Sq.lc (h : Sq H w wr F v Z R) {vc : Value} {c : Cn.Ch} (hr : chR vc c ∈ R) : Lc wr vc c := h.row hr
theorem Sq.ln (h : Sq H w wr F v Z R) {va : Value} {l : List Int} (hr : nmR va l ∈ R) : Ln wr va l := h.row hr
theorem Sq.chain (K : CellsOk H) (h : Sq H w wr F v Z R) (hf : Cl.Fit 200 Z) (k : Cl.Ky) :
    Calls Try.prog 29 #[v, keyA k] wr fun e w' => ∃ v', e = .returned v' ∧ Sq H w w' F v Z (chR v' (Cl.chain Z k) :: R) ∧ Below wr.heap.size wr w' := by
  obtain ⟨F', h1, h2, h3, h4⟩ := h
  refine (K.chain h1 hf k).mono (fun e w' hh => ?_)
  obtain ⟨v', e, g1, g2⟩ := hh
  exact ⟨v', e, Sq.add K ⟨F', h1, h2, h3, h4⟩ g2 _ g1, g2⟩
theorem Sq.keys (K : CellsOk H) (h : Sq H w wr F v Z R) (hf : Cl.Fit 200 Z) :
    Calls Try.prog 27 #[v] wr fun e w' => ∃ v', e = .returned v' ∧ Sq H w w' F v Z (kyR v' Z :: R) ∧ Below wr.heap.size wr w' := by
  obtain ⟨F', h1, h2, h3, h4⟩ := h
  refine (K.keys h1 hf).mono (fun e w' hh => ?_)
  obtain ⟨v', e, g1, g2⟩ := hh
  exact ⟨v', e, Sq.add K ⟨F', h1, h2, h3, h4⟩ g2 _ g1, g2⟩
theorem Sq.set (K : CellsOk H) {vc : Value} {c : Cn.Ch} (h : Sq H w wr F v Z R) (hc : chR vc c ∈ R) (hf : Cl.Fit 200 Z) (hcl : c.length ≤ 200) (k : Cl.Ky) :
    Calls Try.prog 43 #[v, keyA k, vc] wr fun e w' => e = .returned (.tuple #[]) ∧ Sq H w w' F v (Cl.setX Z k c) R ∧ wr.heap.size ≤ w'.heap.size := by
  obtain ⟨F', h1, h2, h3, h4⟩ := h
  refine (K.set h1 hf (h3 _ hc) hcl k).mono (fun e w' hh => ?_)
  obtain ⟨e1, g1, g2⟩ := hh
  refine ⟨e1, ⟨More F' wr w', g1, fun b q => ?_, fun r q => (S.Sg.keep (h3 r q) (fun _ hp => g2.cell hp.1 hp.2)).wider (fun _ hb => hb.next g2.size (fun b q => q)), h4.trans g2 h2⟩, g2.size⟩
  rcases q with q | q
  · exact (h2 b q).elim Or.inl (fun q => Or.inr ⟨q.1, Nat.lt_of_lt_of_le q.2 g2.size⟩)
  · exact Or.inr ⟨Nat.le_trans h4.size q.1, q.2⟩
/-- Prune, by its contract: rows alone -/
structure PruneOk : Prop where
  out : ∀ {w F G v va} {c : Cn.Ch} {act : List Int}, SlC w F v c → (∀ b, F b → b < w.heap.size) → c.length ≤ 200 → RngC c → SlN w G va act → (∀ b, G b → b < w.heap.size) → act.length ≤ 200 → RngN act →
    Calls Try.prog 16 #[v, va] w fun e w' => ∃ v', e = .returned v' ∧ SlC w' (S.New w w') v' (Sw.pruneC c act) ∧ Below w.heap.size w w'
theorem Sq.prune (K : CellsOk H) (KP : PruneOk) {vc va : Value} {c : Cn.Ch} {act : List Int} (h : Sq H w wr F v Z R) (hc : chR vc c ∈ R) (ha : nmR va act ∈ R) (hcl : c.length ≤ 200) (hr : RngC c) (hal : act.length ≤ 200) (hra : RngN act) :
    Calls Try.prog 16 #[vc, va] wr fun e w' => ∃ v', e = .returned v' ∧ Sq H w w' F v Z (chR v' (Sw.pruneC c act) :: R) ∧ Below wr.heap.size wr w' := by
  obtain ⟨F', h1, h2, h3, h4⟩ := h
  refine (KP.out (h3 _ hc) (fun b g => g.1) hcl hr (h3 _ ha) (fun b g => g.1) hal hra).mono (fun e w' hh => ?_)
  obtain ⟨v', e, g1, g2⟩ := hh
  exact ⟨v', e, Sq.add K ⟨F', h1, h2, h3, h4⟩ g2 _ g1, g2⟩
/-- an object's blocks may be told with more beside them -/
structure Wid (H : World → (Nat → Prop) → Value → Cl.Cs → Prop) : Prop where
  out : ∀ {w F G v X}, H w F v X → (∀ b, F b → G b) → (∀ b, G b → b < w.heap.size) → H w G v X
/-- at the end -/
theorem Sq.fin (hw : Wid H) (h : Sq H w wr F v Z R) (hF : ∀ b, F b → b < w.heap.size) : H wr (More F w wr) v Z ∧ Turn F w wr := by
  obtain ⟨F', h1, h2, _, h4⟩ := h
  exact ⟨hw.out h1 h2 (fun b q => q.elim (fun g => Nat.lt_of_lt_of_le (hF b g) h4.size) (fun g => g.2)), h4⟩
/-- at the end: .. and the answer's own block q, that was made between w and w0, written over -/
theorem Sq.done (K : CellsOk H) (hw : Wid H) {w0 : World} (h : Sq H w0 wr F v Z R) (hF : ∀ b, F b → b < w.heap.size) (hb : Below w.heap.size w w0) {q : Nat} (hq0 : w.heap.size ≤ q) (hq1 : q < w0.heap.size) (u0 u1 u2 : Value) :
    H (((wr.setCell ⟨q, 0, none⟩ u0).setCell ⟨q, 1, none⟩ u1).setCell ⟨q, 2, none⟩ u2) (More F w (((wr.setCell ⟨q, 0, none⟩ u0).setCell ⟨q, 1, none⟩ u1).setCell ⟨q, 2, none⟩ u2)) v Z ∧ Turn F w (((wr.setCell ⟨q, 0, none⟩ u0).setCell ⟨q, 1, none⟩ u1).setCell ⟨q, 2, none⟩ u2) := by
  obtain ⟨h1, h2⟩ := h.fin hw (fun b g => Nat.lt_of_lt_of_le (hF b g) hb.size)
  have hs : (((wr.setCell ⟨q, 0, none⟩ u0).setCell ⟨q, 1, none⟩ u1).setCell ⟨q, 2, none⟩ u2).heap.size = wr.heap.size := by simp [World.setCell]
  have hk : ∀ b, b ≠ q → (((wr.setCell ⟨q, 0, none⟩ u0).setCell ⟨q, 1, none⟩ u1).setCell ⟨q, 2, none⟩ u2).heap[b]? = wr.heap[b]? := fun b e => by
    rw [Below.heap_setCell _ ⟨q, 2, none⟩ _ b e, Below.heap_setCell _ ⟨q, 1, none⟩ _ b e, Below.heap_setCell _ ⟨q, 0, none⟩ _ b e]
  refine ⟨hw.out (K.keep h1 (fun b g => hk b (fun e => ?_)) (by omega)) (fun b g => ?_) (fun b g => ?_), Turn.setCell (Turn.setCell (Turn.setCell (Turn.after hb h2) hq0 0 u0) hq0 1 u1) hq0 2 u2⟩
  · rcases g with g | g
    · have := hF b g; omega
    · have := g.1; omega
  · rcases g with g | g
    · exact Or.inl g
    · exact Or.inr ⟨Nat.le_trans hb.size g.1, by rw [hs]; exact g.2⟩
  · rcases g with g | g
    · rw [hs]
      exact Nat.lt_of_lt_of_le (hF b g) (Nat.le_trans hb.size h2.size)
    · exact g.2
end
end Go.Proofs.Ytmlocdfjjgbnjaa
