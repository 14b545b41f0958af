/-
  A loop over what a function hands over, value by value, each with memory of its own: what is asked of the function, and what then holds behind the loop. The loop's body is never left early.
-/
import Derived.Test.YtfpojbnidoeohaaRows
import Derived.RangeFuncBox
import Derived.RangeFuncLeaves
namespace Go.Proofs.Ytfpojbnidoeohaa.Y
open Go.RowKit

variable {α : Type}

/-- the function gf (lb: what it has captured) hands over xs in turn, as values of which H holds then -/
def Feeds (n : Nat) (P : Program) (gf : Nat) (lb : Array Value) (H : World → Value → α → Prop) (n₀ : Nat) (xs : List α) (W : World) : Prop :=
  ∀ (l : Nat) (J : List α → World → Prop), (∀ pre A B, J pre A → Below A.heap.size A B → J pre B) →
    (∀ pre x v A, J pre A → H A v x → (∃ rest, xs = pre ++ x :: rest) → YieldAt Fence.wide (n - 1) P l #[v] A fun e B => e = .returned (.bool true) ∧ J (pre ++ [x]) B ∧ Below n₀ A B) →
    J [] W → CallsIn Fence.wide n P gf (#[.func (.yield l) #[] #[]] ++ lb) W fun e W' => (∃ v, e = .returned v) ∧ J xs W'

theorem grown_of_below {A B : World} (h : Below A.heap.size A B) : A.grownBy B none := ⟨h.os, h.tape, h.output, h.size, fun k hk _ => h.block k hk⟩

theorem below_put {n₀ : Nat} {A : World} {l : Nat} (h : n₀ ≤ l) (hs : n₀ ≤ A.heap.size) (o : Obj) : Below n₀ A (A.putObj l o) :=
  (Below.refl n₀ A).grown (grownBy_putObj' A l o) hs (fun k e => by cases e; exact h)

theorem loop {g : Operand} {ps : Array Tmp} {assign body : Code} {Q : Exit → Act → World → Prop} {a : Act} {w : World} {n : Nat} {P : Program} {gf : Nat} {lb : Array Value}
    (hg : a.eval g = .func (.func gf) #[] lb) (eg : ∀ args w, (callFunc gf args).run P w = .ok (.enter gf args) w) (hps : ps.size = 1)
    {H : World → Value → α → Prop} {n₀ : Nat} {xs : List α} (hseq : ∀ W, Below w.heap.size w W → Feeds (n - 1) P gf lb H n₀ xs W) (hn₀ : n₀ ≤ w.heap.size)
    (hH : ∀ (A : World) (v : Value) (x : α) (l : Nat) (o o' : Obj), H A v x → A.heap[l]? = some o → o.isCells = false → H (A.putObj l o') v x)
    (I : List α → World → Prop) (hI : OwnFrom w.heap.size I) (h0 : I [] w) (a₁ : Value → Act)
    (hassign : ∀ (l : Nat) (v : Value) (W : World) (K : Act → World → Prop), K (a₁ v) W →
      assign.wpIn (Fence.wide.inRound l) (n - 1 - 1) P (Exit.then K (fun _ _ _ => False)) { tmps := (ps.zip #[v]).foldl (fun t (p, v) => t.setIfInBounds p v) a.tmps, defers := [] } W)
    (hbody : ∀ (l : Nat) (pre : List α) (x : α) (v : Value) (W : World), I pre W → H W v x → (∃ rest, xs = pre ++ x :: rest) →
      body.wpIn (Fence.wide.inRound l) (n - 1 - 1) P (fun e _ W' => e = .normal ∧ KeepsOthers W W' ∧ Below n₀ W W' ∧ I (pre ++ [x]) W') (a₁ v) W)
    (hdone : ∀ (D : Nat) (W : World), w.heap.size ≤ D → I xs W → W.heap[D]? = some (.deferred (some [])) → Q .normal { a with defers := { target := .collected D, args := #[] } :: a.defers } W) :
    (Code.rangeFunc g ps assign body).wpIn Fence.wide n P Q a w := by
  refine wpIn_rangeFunc fun fn hfn => ?_
  have hro : Fence.wide.round = none := rfl
  rw [hro]
  obtain ⟨L, hL⟩ : ∃ L : LoopState → Loop, L = fun st => { state := st, pending := none, fn, tmps := a.tmps, params := ps, assign, body, defers := w.heap.size } := ⟨_, rfl⟩
  obtain ⟨m, hm⟩ : ∃ m, m = w.heap.size + 1 := ⟨_, rfl⟩
  obtain ⟨W1, hW1⟩ : ∃ W1, (w.alloc (.deferred (some []))).alloc (.loop (L .ready)) = W1 := ⟨_, rfl⟩
  have hl1 : W1.heap[m]? = some (.loop (L .ready)) := by
    have := World.alloc_heap_new (w.alloc (.deferred (some []))) (.loop (L .ready))
    rwa [hW1, World.size_alloc, ← hm] at this
  have hk1 : W1.heap[w.heap.size]? = some (.deferred (some [])) := by
    rw [← hW1]
    exact (Below.heap_alloc _ _ _ (by simp)).trans (World.alloc_heap_new w _)
  have hb1 : Below w.heap.size w W1 := by
    rw [← hW1]
    exact ((Below.refl _ w).alloc (Nat.le_refl _) _).alloc (by simp) _
  have hi1 : I [] W1 := by
    rw [← hW1]
    exact hI.alloc _ (hI.alloc _ h0)
  refine ⟨m, [{ target := .collected w.heap.size, args := #[] }], W1, { target := .fn (.func gf) lb, args := #[.func (.yield m) #[] #[]] }, W1, gf, #[.func (.yield m) #[] #[]] ++ lb, W1, ?_, ?_, fun _ _ => trivial, ?_, fun h => (by cases h), ?_⟩
  · rw [← hW1, hL, hm]
    exact run_enterLoop_outer _ _ _ _ _
  · simp only [resolve, hg]
    simp [go_sem]
  · simp [invoke, go_sem, eg]
  -- the three facts that go from round to round
  refine (hseq W1 hb1 m (fun pre W => I pre W ∧ W.heap[m]? = some (.loop (L .ready)) ∧ W.heap[w.heap.size]? = some (.deferred (some []))) ?_ ?_ ⟨hi1, hl1, hk1⟩).mono ?_
  · rintro pre A B ⟨hi, hl, hk⟩ hb
    exact ⟨hI _ _ _ none hi (grown_of_below hb) (fun r e => by cases e), (hb.block m (Array.getElem?_eq_some_iff.1 hl).1).trans hl, (hb.block _ (Array.getElem?_eq_some_iff.1 hk).1).trans hk⟩
  · rintro pre x v A ⟨hi, hl, hk⟩ hv hex
    have hml : m < A.heap.size := (Array.getElem?_eq_some_iff.1 hl).1
    have hy := run_yield (P := P) (args := #[v]) hl (by rw [hL]; exact hps.symm)
    have hbr := run_beginRound (P := P) hl (by rw [hL])
    obtain ⟨A2, hA2⟩ : ∃ A2, A.putObj m (.loop (L .busy)) = A2 := ⟨_, rfl⟩
    have e2 : ({ L .ready with state := .busy } : Loop) = L .busy := by rw [hL]
    rw [e2, hA2] at hbr
    have hl2 : A2.heap[m]? = some (.loop (L .busy)) := by rw [← hA2]; exact World.putObj_heap_same hml
    have hk2 : A2.heap[w.heap.size]? = some (.deferred (some [])) := by rw [← hA2]; exact (World.putObj_heap_other (by omega)).trans hk
    have hi2 : I pre A2 := by rw [← hA2]; exact hI.putObj _ hi (by omega) hl rfl
    have hv2 : H A2 v x := by rw [← hA2]; exact hH _ _ _ _ _ _ hv hl rfl
    have hb2 : Below n₀ A A2 := by rw [← hA2]; exact below_put (by omega) (by omega) _
    rw [hL] at hy
    refine ⟨fn, _, assign, body, hy, roundIn_of_wpIn hfn (hassign _ v A _ ⟨_, hbr, ?_⟩)⟩
    refine wpIn_mono (hbody _ pre x v A2 hi2 hv2 hex) ?_
    rintro e a3 W3 ⟨rfl, hk3, hb3, hi3⟩
    have hl3 := hk3.same _ _ hl2 rfl
    have hd3 := hk3.same _ _ hk2 rfl
    have hm3 : m < W3.heap.size := (Array.getElem?_eq_some_iff.1 hl3).1
    have her := run_endRound (P := P) none hl3
    refine ⟨_, _, her, rfl, ⟨hI.putObj _ hi3 (by omega) hl3 rfl, ?_, (World.putObj_heap_other (by omega)).trans hd3⟩, (hb2.trans hb3).trans (below_put (by omega) (by omega) _)⟩
    rw [World.putObj_heap_same hm3, hL]
    rfl
  · rintro e W2 ⟨⟨v, rfl⟩, hi, hl, hk⟩
    have hel := run_endLoop (P := P) hl (by rw [hL]; simp)
    have hp : (L .ready).pending = none := by rw [hL]
    rw [hp] at hel
    refine ⟨none, _, hel, ?_⟩
    exact hdone w.heap.size _ (Nat.le_refl _) (hI.putObj _ hi (by omega) hl rfl) ((World.putObj_heap_other (by omega)).trans hk)

end Go.Proofs.Ytfpojbnidoeohaa.Y
