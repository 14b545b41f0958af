/-
  Who waits for whom in memory, where it stands in a map of maps (map[int64]map[int64]struct{}): Hd; maps of their own, apart from each other: Wm.
-/
import Derived.Test.YthbnbifagenpiaaDpRange
import Derived.Test.YthbnbifagenpiaaDpEndsW
namespace Go.Proofs.Ythbnbifagenpiaa
open Go.RowKit

theorem Mi.count {w : World} {b n : Nat} {m : Int → Option Value} {ks : List Int} (h : Mi w b n m) (hk : ∀ k, (m k).isSome = true → k ∈ ks) : Mi w b ks.length m := by
  obtain ⟨L, c, hb, h1, h2, h3, h4, h5⟩ := h
  refine ⟨L, c, hb, h1, h2, h3, ?_, h5⟩
  rw [← List.length_map (f := Eni.k)]
  refine Dp.nodup_le _ _ (by rw [List.Nodup, List.pairwise_map]; exact h2) (fun k hkm => hk k ?_)
  obtain ⟨x, hx, rfl⟩ := List.mem_map.1 hkm
  rw [← h5, el_some_i hx h2 rfl]
  rfl

/-- what the map of maps has of one: a map of its own, whose keys P tells -/
def SaysP (w : World) (R : Nat → Prop) (P : Int → Prop) : Option Value → Prop
  | none => ∀ n, ¬ P n
  | some v => ∃ (q : Nat) (mi : Int → Option Value) (N : Nat), v = .map (some q) ∧ R q ∧ (∃ n, P n) ∧ Mi w q N mi ∧ ∀ n, (mi n).isSome = true ↔ P n

section
variable {w w' : World} {R R' : Nat → Prop} {P P' : Int → Prop} {x : Option Value}
theorem SaysP.keep (h : SaysP w R P x) (hk : ∀ q, R q → w'.heap[q]? = w.heap[q]?) (hR : ∀ q, R q → R' q) : SaysP w' R' P x := by
  cases x with
  | none => exact h
  | some v =>
    obtain ⟨q, mi, N, h1, h2, h3, h4, h5⟩ := h
    exact ⟨q, mi, N, h1, hR q h2, h3, h4.keep (hk q h2), h5⟩
theorem SaysP.of (h : SaysP w R P x) (e : ∀ n, P n ↔ P' n) : SaysP w R P' x := by
  cases x with
  | none => exact fun n q => h n ((e n).2 q)
  | some v =>
    obtain ⟨q, mi, N, h1, h2, ⟨n, h3⟩, h4, h5⟩ := h
    exact ⟨q, mi, N, h1, h2, ⟨n, (e n).1 h3⟩, h4, fun n => (h5 n).trans (e n)⟩
theorem SaysP.iff (h : SaysP w R P x) : x.isSome = true ↔ ∃ n, P n := by
  cases x with
  | none =>
    have h : ∀ n, ¬ P n := h
    simpa using h
  | some v =>
    obtain ⟨q, mi, N, h1, h2, h3, h4, h5⟩ := h
    simpa using h3
end

/-- maps of their own, apart from each other: k waits for those that D k tells -/
structure Wm (w : World) (R : Nat → Prop) (M : Int → Option Value) (D : Int → Int → Prop) : Prop where
  say : ∀ k, SaysP w R (D k) (M k)
  inj : ∀ k k' v, M k = some v → M k' = some v → k = k'

section
variable {w w' : World} {R R' : Nat → Prop} {M : Int → Option Value} {D D' : Int → Int → Prop}
theorem Wm.keep (h : Wm w R M D) (hk : ∀ q, R q → w'.heap[q]? = w.heap[q]?) (hR : ∀ q, R q → R' q) : Wm w' R' M D := ⟨fun k => (h.say k).keep hk hR, h.inj⟩
theorem Wm.of (h : Wm w R M D) (e : ∀ k n, D k n ↔ D' k n) : Wm w R M D' := ⟨fun k => (h.say k).of (e k), h.inj⟩
theorem Wm.wider (h : Wm w R M D) (hR : ∀ q, R q → R' q) : Wm w R' M D := h.keep (fun _ _ => rfl) hR
/-- the map of one that waits -/
theorem Wm.at_ (h : Wm w R M D) {k n : Int} (hd : D k n) : ∃ q mi N, M k = some (.map (some q)) ∧ R q ∧ Mi w q N mi ∧ ∀ n, (mi n).isSome = true ↔ D k n := by
  have := h.say k
  cases e : M k with
  | none => rw [e] at this; exact absurd hd (this n)
  | some v =>
    rw [e] at this
    obtain ⟨q, mi, N, rfl, h2, _, h4, h5⟩ := this
    exact ⟨q, mi, N, rfl, h2, h4, h5⟩
theorem Wm.some_ (h : Wm w R M D) {k : Int} {v : Value} (e : M k = some v) : ∃ q mi N, v = .map (some q) ∧ R q ∧ (∃ n, D k n) ∧ Mi w q N mi ∧ ∀ n, (mi n).isSome = true ↔ D k n := by
  have := h.say k
  rw [e] at this
  exact this
theorem Wm.none_ (h : Wm w R M D) {k : Int} (e : M k = none) : ∀ n, ¬ D k n := by
  have := h.say k
  rw [e] at this
  exact this
/-- one of them gone -/
theorem Wm.del (h : Wm w R M D) (k : Int) : Wm w R (fun k' => if k' = k then none else M k') (fun k' n => k' ≠ k ∧ D k' n) := by
  refine ⟨fun k' => ?_, fun k1 k2 v h1 h2 => ?_⟩
  · try dsimp only
    by_cases e : k' = k
    · rw [if_pos e]
      exact fun n q => q.1 e
    · rw [if_neg e]
      exact (h.say k').of (fun n => ⟨fun q => ⟨e, q⟩, fun q => q.2⟩)
  · try dsimp only at h1 h2
    by_cases e1 : k1 = k
    · rw [if_pos e1] at h1; cases h1
    · by_cases e2 : k2 = k
      · rw [if_pos e2] at h2; cases h2
      · rw [if_neg e1] at h1; rw [if_neg e2] at h2
        exact h.inj _ _ _ h1 h2
/-- one of them turned, and gone -/
theorem Wm.lose (h : Wm w R M D) {k : Int} {q : Nat} (hq : M k = some (.map (some q))) (hg : w.grownBy w' (some q)) (hR : ∀ r, R r → r < w.heap.size) : Wm w' R (fun k' => if k' = k then none else M k') (fun k' n => k' ≠ k ∧ D k' n) := by
  have h0 := h.del k
  refine ⟨fun k' => ?_, h0.inj⟩
  have := h0.say k'
  try dsimp only at this ⊢
  by_cases e : k' = k
  · rw [if_pos e] at this ⊢
    exact this
  · rw [if_neg e] at this ⊢
    cases em : M k' with
    | none => rw [em] at this; exact this
    | some v =>
      rw [em] at this
      obtain ⟨r, mi, N, rfl, h2, h3, h4, h5⟩ := this
      refine ⟨r, mi, N, rfl, h2, h3, h4.keep (hg.block r (hR r h2) (fun er => ?_)), h5⟩
      cases er
      exact e (h.inj _ _ _ em hq)
/-- one of them turned -/
theorem Wm.inner (h : Wm w R M D) {k : Int} {q N : Nat} {mi : Int → Option Value} (hq : M k = some (.map (some q))) (hR : ∀ r, R r → r < w.heap.size) (hg : w.grownBy w' (some q)) (hm : Mi w' q N mi) {n0 : Int} (hn : (mi n0).isSome = true) : Wm w' R M (fun k' n => if k' = k then (mi n).isSome = true else D k' n) := by
  refine ⟨fun k' => ?_, h.inj⟩
  try dsimp only
  by_cases e : k' = k
  · subst e
    rw [hq]
    obtain ⟨r, _, _, e2, h2, _⟩ := h.some_ hq
    cases e2
    exact ⟨q, mi, N, rfl, h2, ⟨n0, by dsimp only; rw [if_pos rfl]; exact hn⟩, hm, fun n => by dsimp only; rw [if_pos rfl]⟩
  · have := h.say k'
    cases em : M k' with
    | none => rw [em] at this; exact fun n => by dsimp only; rw [if_neg e]; exact this n
    | some v =>
      rw [em] at this
      obtain ⟨r, mi', N', rfl, h2, h3, h4, h5⟩ := this
      refine ⟨r, mi', N', rfl, h2, ?_, h4.keep (hg.block r (hR r h2) (fun er => ?_)), fun n => by dsimp only; rw [if_neg e]; exact h5 n⟩
      · obtain ⟨n, h3⟩ := h3
        exact ⟨n, by dsimp only; rw [if_neg e]; exact h3⟩
      · cases er
        exact e (h.inj _ _ _ em hq)
/-- one more of them -/
theorem Wm.put (h : Wm w R M D) {k : Int} {q N : Nat} {mi : Int → Option Value} (hf : ∀ r, R r → w'.heap[r]? = w.heap[r]?) (hq : ¬ R q) (hR : ∀ r, R r → R' r) (hq' : R' q) (hm : Mi w' q N mi) {n0 : Int} (hn : (mi n0).isSome = true) : Wm w' R' (fun k' => if k' = k then some (.map (some q)) else M k') (fun k' n => if k' = k then (mi n).isSome = true else D k' n) := by
  refine ⟨fun k' => ?_, fun k1 k2 v h1 h2 => ?_⟩
  · try dsimp only
    by_cases e : k' = k
    · rw [if_pos e]
      exact ⟨q, mi, N, rfl, hq', ⟨n0, by dsimp only; rw [if_pos e]; exact hn⟩, hm, fun n => by dsimp only; rw [if_pos e]⟩
    · rw [if_neg e]
      exact ((h.say k').keep hf hR).of (fun n => by rw [if_neg e])
  · try dsimp only at h1 h2
    have no : ∀ k1, k1 ≠ k → M k1 ≠ some (.map (some q)) := fun k1 _ e => by
      obtain ⟨r, _, _, e2, h2, _⟩ := h.some_ e
      cases e2
      exact hq h2
    by_cases e1 : k1 = k
    · by_cases e2 : k2 = k
      · rw [e1, e2]
      · rw [if_pos e1] at h1; rw [if_neg e2] at h2
        cases h1
        exact absurd h2 (no k2 e2)
    · by_cases e2 : k2 = k
      · rw [if_neg e1] at h1; rw [if_pos e2] at h2
        cases h2
        exact absurd h1 (no k1 e1)
      · rw [if_neg e1] at h1; rw [if_neg e2] at h2
        exact h.inj _ _ _ h1 h2
end

/-- the struct in block g, whose map of maps in block b, holds d -/
structure Hg (w : World) (F : Nat → Prop) (g b : Nat) (d : List Dp.Wt) : Prop where
  ok : Dp.Ok d
  rng : ∀ p ∈ d, p.1 ≤ 9223372036854775807
  lt : ∀ r, F r → r < w.heap.size
  ne : g ≠ b
  fg : F g
  fb : F b
  cell : w.cell? ⟨g, 0, none⟩ = some (.map (some b))
  map : ∃ M, Mi w b (Dp.all d).length M ∧ Wm w (fun r => F r ∧ r ≠ g ∧ r ≠ b) M (fun k n => (k, n) ∈ d)
def Hd (w : World) (F : Nat → Prop) (v : Value) (d : List Dp.Wt) : Prop := ∃ g b, v = .pointer (some ⟨g, 0, none⟩) ∧ Hg w F g b d
/-- the blocks of the maps of who waits -/
abbrev Ins (F : Nat → Prop) (g b : Nat) : Nat → Prop := fun r => F r ∧ r ≠ g ∧ r ≠ b

section
variable {w w' : World} {F G : Nat → Prop} {g b : Nat} {d : List Dp.Wt}
theorem Hg.keep (h : Hg w F g b d) (hk : ∀ r, F r → w'.heap[r]? = w.heap[r]?) (hs : w.heap.size ≤ w'.heap.size) : Hg w' F g b d := by
  obtain ⟨M, hm, hw⟩ := h.map
  exact ⟨h.ok, h.rng, fun r hr => Nat.lt_of_lt_of_le (h.lt r hr) hs, h.ne, h.fg, h.fb, (World.cell?_of_block (a := ⟨g, 0, none⟩) (hk g h.fg)).trans h.cell, M, hm.keep (hk b h.fb), hw.keep (fun q hq => hk q hq.1) (fun _ q => q)⟩
theorem Hg.below (h : Hg w F g b d) (hb : Below w.heap.size w w') : Hg w' F g b d := h.keep (fun r hr => hb.block r (h.lt r hr)) hb.size
theorem Hg.wider (h : Hg w F g b d) (hF : ∀ r, F r → G r) (hG : ∀ r, G r → r < w.heap.size) : Hg w G g b d := by
  obtain ⟨M, hm, hw⟩ := h.map
  exact ⟨h.ok, h.rng, hG, h.ne, hF _ h.fg, hF _ h.fb, h.cell, M, hm, hw.wider (fun q hq => ⟨hF q hq.1, hq.2⟩)⟩
theorem more_ltD (hF : ∀ r, F r → r < w.heap.size) (hs : w.heap.size ≤ w'.heap.size) : ∀ r, More F w w' r → r < w'.heap.size := fun r q => q.elim (fun q => Nat.lt_of_lt_of_le (hF r q) hs) (fun q => q.2)
theorem Hg.later (h : Hg w F g b d) (hb : Below w.heap.size w w') : Hg w' (More F w w') g b d := (h.below hb).wider (fun _ => Or.inl) (more_ltD h.lt hb.size)
theorem Hg.cellAt (h : Hg w F g b d) (hb : Below w.heap.size w w') : w'.cell? ⟨g, 0, none⟩ = some (.map (some b)) := (hb.cell (p := ⟨g, 0, none⟩) (h.lt _ h.fg)).trans h.cell
/-- how many there are in it follows from who they are -/
theorem Hg.of {M : Int → Option Value} {N : Nat} (ok : Dp.Ok d) (rng : ∀ p ∈ d, p.1 ≤ 9223372036854775807) (lt : ∀ r, F r → r < w.heap.size) (ne : g ≠ b) (fg : F g) (fb : F b) (cell : w.cell? ⟨g, 0, none⟩ = some (.map (some b)))
    (hm : Mi w b N M) (hw : Wm w (Ins F g b) M (fun k n => (k, n) ∈ d)) : Hg w F g b d :=
  ⟨ok, rng, lt, ne, fg, fb, cell, M, hm.count (fun k hk => by rw [Dp.all_mem]; exact (hw.say k).iff.1 hk), hw⟩
theorem Turn.grownD {w1 w2 : World} {q : Nat} (h : Turn F w w1) (hg : w1.grownBy w2 (some q)) (hq : F q ∨ w.heap.size ≤ q) : Turn F w w2 :=
  ⟨hg.os.trans h.os, hg.tape.trans h.tape, hg.output.trans h.output, Nat.le_trans h.size hg.size, fun k hk hF => (hg.block k (Nat.lt_of_lt_of_le hk h.size) (fun e => by cases e; exact hq.elim hF (fun q => by omega))).trans (h.block k hk hF)⟩
end

set_option maxRecDepth 100000 in
set_option maxHeartbeats 1000000 in
theorem new12 (w : World) : Calls Try.prog 10 #[] w fun e w' => ∃ v, e = .returned v ∧ Hd w' (S.New w w') v [] ∧ Below w.heap.size w w' := by
  have hb : Below w.heap.size w ((w.alloc (.map #[] 0)).alloc (.cells #[.map (some w.heap.size)] 46)) := ((Below.refl _ _).alloc (Nat.le_refl _) _).alloc (by simp) _
  have HB := Lib.hid hb
  have HM : Hid (Mi ((w.alloc (.map #[] 0)).alloc (.cells #[.map (some w.heap.size)] 46)) w.heap.size 0 (fun _ => none)) := Lib.hid ((Mi.made w).keep (((Below.refl _ _).alloc (Nat.le_refl _) _).block _ (by simp)))
  have HC : Hid (((w.alloc (.map #[] 0)).alloc (.cells #[.map (some w.heap.size)] 46)).cell? ⟨w.heap.size + 1, 0, none⟩ = some (.map (some w.heap.size))) := Lib.hid ((Bk.new (w.alloc (.map #[] 0)) [.map (some w.heap.size)] 46 (g := w.heap.size + 1) (by simp)).cell 0 _ rfl)
  clear hb
  have hmake : (Instr.makeMap 44 none).run Try.prog w = .ok (.map (some w.heap.size)) (w.alloc (.map #[] 0)) := rfl
  go_enter Try.func10, Try.ntmps10
  go_wp2
  go_ret
  refine ⟨_, rfl, ⟨_, w.heap.size, rfl, Hg.of Dp.Ok.nil (fun p hp => (by cases hp)) (fun r q => q.2) (by omega) ⟨by omega, by simp⟩ ⟨by omega, by simp; omega⟩ HC.out HM.out ⟨fun k n hn => (by cases hn), fun k k' v h => (by cases h)⟩⟩, HB.out⟩
end Go.Proofs.Ythbnbifagenpiaa
