/-
  Walks of layer ring's laws: both rings behind deeds: what a loop over deeds keeps.
-/
import Derived.Test.YtfpojbnidoeohaaRgLaw4
namespace Go.Proofs.Ytfpojbnidoeohaa
open Go.RowKit

theorem many_le {n : Nat} (h : n ≤ 400) : R.many n ≤ 8 := by unfold R.many; split <;> omega

theorem step_may {r : G.Rg} (h : r.May) (X : Dd) : (r.step X).May := by
  unfold G.Rg.step
  split
  · exact h.append _
  · split
    · exact h.trunc _
    · exact h.sync
theorem step_row6 {r : G.Rg} (h : r.May) (X : Dd) (hX : X.rc.length ≤ 400) : (r.step X).d.row.length ≤ r.d.row.length + 8 := by
  unfold G.Rg.step
  split
  · unfold G.Rg.append
    split
    · rw [G.put_row h]
      have := many_le hX
      omega
    · omega
  · split
    · unfold G.Rg.trunc
      split <;> (show r.d.row.length ≤ _; omega)
    · show (D.Dk.sync r.d).row.length ≤ _
      simp [D.Dk.sync]
theorem step_secs {r : G.Rg} (X : Dd) : (r.step X).d.secs.length = r.d.secs.length := by
  unfold G.Rg.step
  split
  · unfold G.Rg.append
    split
    · exact G.lay_len _ _ _ _
    · rfl
  · split
    · unfold G.Rg.trunc
      split <;> rfl
    · exact D.sync_len _

def rsteps (r : G.Rg) (l : List Dd) : G.Rg := l.foldl G.Rg.step r
theorem rsteps_snoc (r : G.Rg) (l : List Dd) (X : Dd) : rsteps r (l ++ [X]) = (rsteps r l).step X := by simp [rsteps]
theorem rsteps_take (r : G.Rg) (l : List Dd) (k : Nat) (h : k < l.length) : rsteps r (l.take (k + 1)) = (rsteps r (l.take k)).step l[k] := by
  rw [List.take_succ_eq_append_getElem h, rsteps_snoc]
theorem rsteps_may (l : List Dd) : ∀ {r : G.Rg}, r.May → (rsteps r l).May := by
  induction l with
  | nil => intro r h; exact h
  | cons X t ih => intro r h; exact ih (step_may h X)
theorem rsteps_row (l : List Dd) : ∀ {r : G.Rg}, r.May → (∀ X ∈ l, X.rc.length ≤ 400) → (rsteps r l).d.row.length ≤ r.d.row.length + 8 * l.length := by
  induction l with
  | nil => intro r h _; simp [rsteps]
  | cons X t ih =>
    intro r h hX
    have h1 := ih (step_may h X) (fun Y hY => hX Y (List.mem_cons_of_mem _ hY))
    have h2 := step_row6 h X (hX X (List.mem_cons_self ..))
    simp only [rsteps, List.foldl_cons, List.length_cons] at h1 ⊢
    omega
theorem rsteps_secs (l : List Dd) : ∀ {r : G.Rg}, (rsteps r l).d.secs.length = r.d.secs.length := by
  induction l with
  | nil => intro r; rfl
  | cons X t ih => intro r; exact (ih (r := r.step X)).trans (step_secs X)

section
variable {H : World → (Nat → Prop) → Value → D.Dk → Prop}

/-- what a loop over deeds keeps: both rings, the document's in the block X -/
structure Lp6 (H : World → (Nat → Prop) → Value → D.Dk → Prop) (w : World) (X : Nat) (v vd : Value) (F R : Nat → Prop) (r : G.Rg) (wr : World) : Prop where
  ex : ∃ x1 x2 x3 : Value, Bo H wr F R v vd (.agg (rgC x1 x2 x3 r).toArray) r ∧ Bk wr X (rgC x1 x2 x3 r)
  nF : ¬ F X
  nR : ¬ R X
  hF : ∀ b, F b → w.heap.size ≤ b
  bel : Below w.heap.size w wr
  hX : w.heap.size ≤ X

theorem Bo.below (K : DiskOk H) {w w' : World} {F R : Nat → Prop} {v vd x : Value} {r : G.Rg} (h : Bo H w F R v vd x r) (hb : Below w.heap.size w w') : Bo H w' F R v vd x r :=
  ⟨h.real.below K hb, h.ref.below hb h.rlt, fun b g => Nat.lt_of_lt_of_le (h.rlt b g) hb.size, h.off⟩
theorem Bo.turn (K : DiskOk H) {w w' : World} {F R G' : Nat → Prop} {v vd x : Value} {r : G.Rg} (h : Bo H w F R v vd x r) (ht : Turn G' w w') (hF : ∀ b, F b → ¬ G' b) (hR : ∀ b, R b → ¬ G' b) : Bo H w' F R v vd x r :=
  ⟨h.real.turn K ht hF, h.ref.turn ht h.rlt hR, fun b g => Nat.lt_of_lt_of_le (h.rlt b g) ht.size, h.off⟩

theorem Lp6.below (K : DiskOk H) {w wr w2 : World} {X : Nat} {v vd : Value} {F R : Nat → Prop} {r : G.Rg} (h : Lp6 H w X v vd F R r wr) (hb : Below wr.heap.size wr w2) : Lp6 H w X v vd F R r w2 := by
  obtain ⟨⟨x1, x2, x3, hB, hx⟩, nF, nR, hF, hbl, hX⟩ := h
  exact ⟨⟨x1, x2, x3, hB.below K hb, hx.step hb⟩, nF, nR, hF, below_two hbl hb, hX⟩
theorem Lp6.turn (K : DiskOk H) {w wr w2 : World} {X : Nat} {v vd : Value} {F R G' : Nat → Prop} {r : G.Rg} (h : Lp6 H w X v vd F R r wr) (ht : Turn G' wr w2) (h1 : ∀ b, F b → ¬ G' b) (h2 : ∀ b, R b → ¬ G' b) (h3 : ¬ G' X) (h4 : ∀ b, G' b → w.heap.size ≤ b) : Lp6 H w X v vd F R r w2 := by
  obtain ⟨⟨x1, x2, x3, hB, hx⟩, nF, nR, hF, hbl, hX⟩ := h
  exact ⟨⟨x1, x2, x3, hB.turn K ht h1 h2, hx.turn ht h3⟩, nF, nR, hF, hbl.trans (ht.below hbl.size h4), hX⟩

/-- the document's ring laid into X -/
theorem Lp6.put (K : DiskOk H) {w w2 : World} {X : Nat} {v vd : Value} {F R : Nat → Prop} {r : G.Rg} {A1 A2 A3 : Option Addr} {n1 n2 n3 e1 e2 e3 : Nat} {b0 b1 b2 b3 b4 b5 b6 b7 : Value} (hX : w.heap.size ≤ X) (hb : Below w.heap.size w w2) (hx : Bk w2 X [b0, b1, b2, b3, b4, b5, b6, b7]) (nF : ¬ F X) (nR : ¬ R X) (hF : ∀ b, F b → w.heap.size ≤ b)
    (h : Bo H w2 F R v vd (.agg #[.slice A1 n1 e1, .slice A2 n2 e2, .slice A3 n3 e3, .int .i64 (r.first : Int), .int .i64 (r.many : Int), .int .u32 (r.epoch : Int), .int .u32 (r.low : Int), .int .u32 (r.next : Int)]) r) :
    Lp6 H w X v vd F R r (set8 w2 X (.slice A1 n1 e1) (.slice A2 n2 e2) (.slice A3 n3 e3) (.int .i64 (r.first : Int)) (.int .i64 (r.many : Int)) (.int .u32 (r.epoch : Int)) (.int .u32 (r.low : Int)) (.int .u32 (r.next : Int))) := by
  have ht := set8_turn w2 X (.slice A1 n1 e1) (.slice A2 n2 e2) (.slice A3 n3 e3) (.int .i64 (r.first : Int)) (.int .i64 (r.many : Int)) (.int .u32 (r.epoch : Int)) (.int .u32 (r.low : Int)) (.int .u32 (r.next : Int))
  exact ⟨⟨_, _, _, h.turn K ht (fun b g e => nF (e ▸ g)) (fun b g e => nR (e ▸ g)), hx.all8 _ _ _ _ _ _ _ _⟩, nF, nR, hF, hb.trans (ht.below hb.size (fun b e => by omega)), hX⟩

/-- both rings, just made: the document's block made behind its disk -/
theorem Lp6.start (K : DiskOk H) {w w2 w3 : World} {F : Nat → Prop} {v vd : Value} {x1 x2 x3 : Value} {r : G.Rg} (h1 : Rp H w2 F v vd r) (hF : ∀ b, F b → w.heap.size ≤ b) (hb2 : Below w.heap.size w w2) (h2 : Rd w3 (S.New w2 w3) (.agg #[x1, x2, x3]) r.d) (hb3 : Below w2.heap.size w2 w3) (t : TypeId) :
    Lp6 H w w3.heap.size v vd F (S.New w2 w3) r (w3.alloc (.cells (rgC x1 x2 x3 r).toArray t)) := by
  have hba := (Below.refl w3.heap.size w3).alloc (Nat.le_refl _) (.cells (rgC x1 x2 x3 r).toArray t)
  have hs2 := hb2.size
  have hs3 := hb3.size
  have hsa := hba.size
  have hfl := h1.lt
  refine ⟨⟨x1, x2, x3, ⟨(h1.below K hb3).below K hba, ⟨_, _, _, rfl, h2.below hba (fun b g => g.2)⟩, fun b g => Nat.lt_of_lt_of_le g.2 hsa, fun b g f => ?_⟩, Bk.new w3 _ t rfl⟩, fun g => ?_, fun g => ?_, hF, below_two (below_two hb2 hb3) hba, by omega⟩
  · have := hfl b f; have := g.1; omega
  · have := hfl _ g; omega
  · have := g.2; omega

/-- .. or ahead of it -/
theorem Lp6.start' (K : DiskOk H) {w w2 w3 : World} {X : Nat} {F : Nat → Prop} {v vd : Value} {A1 A2 A3 : Option Addr} {n1 n2 n3 e1 e2 e3 : Nat} {b0 b1 b2 b3 b4 b5 b6 b7 : Value} {r : G.Rg} (h1 : Rp H w2 F v vd r) (hF : ∀ b, F b → w.heap.size ≤ b) (hb2 : Below w.heap.size w w2) (hx : Bk w2 X [b0, b1, b2, b3, b4, b5, b6, b7]) (hX : w.heap.size ≤ X) (nF : ¬ F X)
    (h2 : Rd w3 (S.New w2 w3) (.agg #[.slice A1 n1 e1, .slice A2 n2 e2, .slice A3 n3 e3]) r.d) (hb3 : Below w2.heap.size w2 w3) :
    Lp6 H w X v vd F (S.New w2 w3) r (set8 w3 X (.slice A1 n1 e1) (.slice A2 n2 e2) (.slice A3 n3 e3) (.int .i64 (r.first : Int)) (.int .i64 (r.many : Int)) (.int .u32 (r.epoch : Int)) (.int .u32 (r.low : Int)) (.int .u32 (r.next : Int))) := by
  have hfl := h1.lt
  have hxl := hx.lt
  exact Lp6.put K hX (below_two hb2 hb3) (hx.step hb3) nF (fun g => by have := g.1; omega) hF ⟨h1.below K hb3, ⟨_, _, _, rfl, h2⟩, fun b g => g.2, fun b g f => by have := hfl b f; have := g.1; omega⟩

theorem set8_other {w : World} {a : Addr} {v : Value} (h : w.cell? a = some v) {g : Nat} (hg : g ≠ a.block) (u0 u1 u2 u3 u4 u5 u6 u7 : Value) : (set8 w g u0 u1 u2 u3 u4 u5 u6 u7).cell? a = some v :=
  cell_other (cell_other (cell_other (cell_other (cell_other (cell_other (cell_other (cell_other h hg 0 u0) hg 1 u1) hg 2 u2) hg 3 u3) hg 4 u4) hg 5 u5) hg 6 u6) hg 7 u7
end

end Go.Proofs.Ytfpojbnidoeohaa
