/-
  Layer sweep's laws: the calls over rows that lie wherever.
-/
import Derived.Test.YtmlocdfjjgbnjaaSwLaw1
import Derived.Test.YtmlocdfjjgbnjaaJL
namespace Go.Proofs.Ytmlocdfjjgbnjaa
open Go.RowKit

/-- numbers in memory, wherever -/
def Ln (w : World) (v : Value) (l : List Int) : Prop := ∃ F, SlN w F v l ∧ ∀ b, F b → b < w.heap.size
/-- bools in memory, wherever -/
def Lo (w : World) (v : Value) (l : List Bool) : Prop := ∃ F, SlO w F v l ∧ ∀ b, F b → b < w.heap.size

section
variable {w w' : World} {v va vb : Value} {c : Cn.Ch} {l act : List Int} {o : List Bool}
theorem Ln.below (h : Ln w v l) (hb : Below w.heap.size w w') : Ln w' v l := by
  obtain ⟨F, hs, hF⟩ := h
  exact ⟨F, S.Sg.below hs hb hF, fun b q => Nat.lt_of_lt_of_le (hF b q) hb.size⟩
theorem Ln.form (h : Ln w v l) : ∃ A cap, v = .slice A l.length cap ∧ l.length ≤ cap := by
  obtain ⟨F, hs, _⟩ := h
  exact num_form hs
theorem Ln.nth (h : Ln w v l) (i : Nat) (hi : i < l.length) : ∃ a cap, v = .slice (some a) l.length cap ∧ l.length ≤ cap ∧ a.block < w.heap.size ∧ w.cell? (a.add i) = some (.int .i64 l[i]) := by
  obtain ⟨F, hs, hF⟩ := h
  obtain ⟨a, cap, e, hc, hFa, x⟩ := num_nth hs i hi
  exact ⟨a, cap, e, hc, hF _ hFa, x⟩
/-- its first n -/
theorem Ln.take {A : Option Addr} {cap : Nat} (h : Ln w (.slice A l.length cap) l) (n : Nat) (hn : n ≤ l.length) : Ln w (.slice A n cap) (l.take n) := by
  obtain ⟨F, ⟨h1, A', cap', e, hc, hx⟩, hF⟩ := h
  cases e
  have hl : (l.take n).length = n := by rw [List.length_take]; omega
  refine ⟨F, ⟨by rw [numV_length, Nat.mul_one], A, cap, by rw [hl], by rw [hl]; omega, fun h0 => ?_⟩, hF⟩
  rw [hl] at h0
  obtain ⟨a, e, hFa, hx⟩ := hx (by omega)
  refine ⟨a, e, hFa, fun j u hj => hx j u ?_⟩
  have hjl : j < (l.take n).length := by
    have := (List.getElem?_eq_some_iff.1 hj).1
    rw [numV_length] at this
    exact this
  rw [numV_at _ j hjl] at hj
  rw [numV_at l j (by rw [hl] at hjl; omega), ← hj, List.getElem_take]
theorem Lo.below (h : Lo w v o) (hb : Below w.heap.size w w') : Lo w' v o := by
  obtain ⟨F, hs, hF⟩ := h
  exact ⟨F, S.Sg.below hs hb hF, fun b q => Nat.lt_of_lt_of_le (hF b q) hb.size⟩
theorem Lo.form (h : Lo w v o) : ∃ A cap, v = .slice A o.length cap ∧ o.length ≤ cap := by
  obtain ⟨F, hs, _⟩ := h
  exact boo_form hs
theorem Lo.nth (h : Lo w v o) (i : Nat) (hi : i < o.length) : ∃ a cap, v = .slice (some a) o.length cap ∧ o.length ≤ cap ∧ a.block < w.heap.size ∧ w.cell? (a.add i) = some (.bool o[i]) := by
  obtain ⟨F, hs, hF⟩ := h
  obtain ⟨a, cap, e, hc, hFa, x⟩ := boo_nth hs i hi
  exact ⟨a, cap, e, hc, hF _ hFa, x⟩

theorem made13L (h : Lc w v c) (hl : c.length ≤ 1000) : Calls Try.prog 10 #[v] w fun e w' => ∃ v', e = .returned v' ∧ Lc w' v' c ∧ Below w.heap.size w w' := by
  obtain ⟨F, hs, hF⟩ := h
  exact (made13_any hs hF (by omega)).mono (fun _ _ hh => by obtain ⟨v', e, hs, hb⟩ := hh; exact ⟨v', e, Lc.of_new hs, hb⟩)
theorem real13L (h : Lc w v c) (hl : c.length ≤ 1000) : Calls Try.prog 15 #[v] w fun e w' => ∃ v', e = .returned v' ∧ Lc w' v' c ∧ Below w.heap.size w w' := by
  obtain ⟨F, hs, hF⟩ := h
  exact (real13_any hs hF (by omega)).mono (fun _ _ hh => by obtain ⟨v', e, hs, hb⟩ := hh; exact ⟨v', e, Lc.of_new hs, hb⟩)
theorem rmay13L (h : Lc w v c) (hl : c.length ≤ 1000) : Calls Try.prog 18 #[v] w fun e w' => e = .returned (.bool (Cn.mayB c)) ∧ Below w.heap.size w w' := by
  obtain ⟨F, hs, _⟩ := h
  exact (rmay10_any hs (by omega)).mono (fun _ _ hh => ⟨hh.1, hh.2.low⟩)
theorem rneeded13L (h : Lc w v c) (hl : c.length ≤ 1000) (ha : Ln w va act) (hla : act.length ≤ 1000) : Calls Try.prog 13 #[v, va] w fun e w' => ∃ v', e = .returned v' ∧ Lo w' v' (Sw.needs c act) ∧ Below w.heap.size w w' := by
  obtain ⟨F, hs, hF⟩ := h
  obtain ⟨G, hg, hG⟩ := ha
  exact (rneeded13_any hs hF hl hg hG hla).mono (fun _ _ hh => by obtain ⟨v', e, hs, hb⟩ := hh; exact ⟨v', e, ⟨_, hs, fun _ q => q.2⟩, hb⟩)
theorem rprune13L (h : Lc w v c) (hl : c.length ≤ 1000) (ha : Ln w va act) (hla : act.length ≤ 1000) : Calls Try.prog 17 #[v, va] w fun e w' => ∃ v', e = .returned v' ∧ Lc w' v' (Sw.pruneC c act) ∧ Below w.heap.size w w' := by
  obtain ⟨F, hs, hF⟩ := h
  obtain ⟨G, hg, hG⟩ := ha
  exact (rprune13_any hs hF hl hg hG hla).mono (fun _ _ hh => by obtain ⟨v', e, hs, hb⟩ := hh; exact ⟨v', e, Lc.of_new hs, hb⟩)
theorem rbools13L (ha : Lo w va o) (hb : Lo w vb o) (hl : o.length ≤ 1000) : Calls Try.prog 11 #[va, vb] w fun e w' => e = .returned (.bool true) ∧ Below w.heap.size w w' := by
  obtain ⟨F, hs, _⟩ := ha
  obtain ⟨G, hg, _⟩ := hb
  exact (rbools13_any hs hg (by omega)).mono (fun _ _ hh => ⟨hh.1, hh.2.low⟩)
theorem same13L (ha : Lc w va c) (hb : Lc w vb c) (hl : c.length ≤ 1000) : Calls Try.prog 14 #[va, vb] w fun e w' => e = .returned (.bool true) ∧ Below w.heap.size w w' := sameL ha hb (by omega)

variable {H : World → (Nat → Prop) → Value → Cl.Cs → Prop}
theorem SweepOk.neededL (K : SweepOk H) (h : Lc w v c) (hl : c.length ≤ 200) (hr : RngC c) (ha : Ln w va act) (hla : act.length ≤ 200) (hra : RngN act) : Calls Try.prog 12 #[v, va] w fun e w' => ∃ v', e = .returned v' ∧ Lo w' v' (Sw.needs c act) ∧ Below w.heap.size w w' := by
  obtain ⟨F, hs, hF⟩ := h
  obtain ⟨G, hg, hG⟩ := ha
  exact (K.needed hs hF hl hr hg hG hla hra).mono (fun _ _ hh => by obtain ⟨v', e, hs, hb⟩ := hh; exact ⟨v', e, ⟨_, hs, fun _ q => q.2⟩, hb⟩)
theorem SweepOk.pruneL (K : SweepOk H) (h : Lc w v c) (hl : c.length ≤ 200) (hr : RngC c) (ha : Ln w va act) (hla : act.length ≤ 200) (hra : RngN act) : Calls Try.prog 16 #[v, va] w fun e w' => ∃ v', e = .returned v' ∧ Lc w' v' (Sw.pruneC c act) ∧ Below w.heap.size w w' := by
  obtain ⟨F, hs, hF⟩ := h
  obtain ⟨G, hg, hG⟩ := ha
  exact (K.prune hs hF hl hr hg hG hla hra).mono (fun _ _ hh => by obtain ⟨v', e, hs, hb⟩ := hh; exact ⟨v', e, Lc.of_new hs, hb⟩)
theorem SweepOk.prunedL (K : SweepOk H) (KC : ChainOk) (h : Lc w v c) (hl : c.length ≤ 200) (hr : RngC c) (ha : Ln w va act) (hla : act.length ≤ 200) (hra : RngN act) : Calls Try.prog 19 #[v, va] w fun e w' => ∃ v', e = .returned v' ∧ Lc w' v' (Sw.prunedC c act) ∧ Below w.heap.size w w' := by
  obtain ⟨F, hs, hF⟩ := h
  obtain ⟨G, hg, hG⟩ := ha
  exact (pruned13_any K KC hs hF hl hr hg hG hla hra).mono (fun _ _ hh => by obtain ⟨v', e, hs, hb⟩ := hh; exact ⟨v', e, Lc.of_new hs, hb⟩)
theorem needs_len (c : Cn.Ch) (act : List Int) : (Sw.needs c act).length = c.length := by unfold Sw.needs; rw [List.length_map]
end
end Go.Proofs.Ytmlocdfjjgbnjaa
