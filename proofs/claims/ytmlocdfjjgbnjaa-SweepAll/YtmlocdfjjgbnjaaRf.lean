/-
  A loop over what an iterator gives, whose body is never left early: what is asked of the body, and what then holds behind the loop. No program's function stands here.
-/
import Derived.Test.YtmlocdfjjgbnjaaRows
import Derived.RangeFuncBox
import Derived.RangeFuncLeaves
import Derived.RangeFuncGives
import Derived.RangeFuncFrom
namespace Go.Proofs.Ytmlocdfjjgbnjaa.Y
open Go.RowKit

variable {α : Type}

theorem grown_under {A B : World} (h : Below A.heap.size A B) : A.grownBy B none := ⟨h.os, h.tape, h.output, h.size, fun k hk _ => h.block k hk⟩

theorem loopG {g : Operand} {ps : Array Tmp} {assign body : Code} {Q : Exit → Act → World → Prop} {a : Act} {w : World} {n : Nat} {P : Program} {gf : Nat} {lb : Array Value}
    (hg : a.eval g = .func (.func gf) #[] lb) (eg : ∀ args w, (callFunc gf args).run P w = .ok (.enter gf args) w) (hps : ps.size = 1)
    {enc : α → Value} {S : List α → Prop} {N : Nat} {w0 : World} (hseq : SeqGives Fence.wide (n - 1) P gf lb enc S N w0) (hb0 : Below w0.heap.size w0 w)
    (I : List α → World → Prop) (hI : OwnFrom w.heap.size I) (h0 : I [] w) (a₁ : α → Nat → Act) (box : α → Obj)
    (hassign : ∀ (l : Nat) (x : α) (W : World) (K : Act → World → Prop), K (a₁ x W.heap.size) (W.alloc (box x)) →
      assign.wpIn (Fence.wide.inRound l) (n - 1 - 1) P (Exit.then K (fun _ _ _ => False)) { tmps := (ps.zip #[enc x]).foldl (fun t (p, v) => t.setIfInBounds p v) a.tmps, defers := [] } W)
    (hbody : ∀ (l : Nat) (pre : List α) (x : α) (p : Nat) (W : World), I pre W → pre.length < N → w.heap.size ≤ p → W.heap[p]? = some (box x) →
      body.wpIn (Fence.wide.inRound l) (n - 1 - 1) P (fun e _ W' => e = .normal ∧ KeepsOthers W W' ∧ I (pre ++ [x]) W') (a₁ x p) W)
    (hdone : ∀ (D : Nat) (xs : List α) (W : World), w.heap.size ≤ D → S xs → I xs W → W.heap[D]? = some (.deferred (some [])) → Q .normal { a with defers := { target := .collected D, args := #[] } :: a.defers } W) :
    (Code.rangeFunc g ps assign body).wpIn Fence.wide n P Q a w := by
  refine wpIn_rangeFunc fun fn hfn => ?_
  have hro : Fence.wide.round = none := rfl
  rw [hro]
  obtain ⟨L, hL⟩ : ∃ L : LoopState → Loop, L = fun st => { state := st, pending := none, fn, tmps := a.tmps, params := ps, assign, body, defers := w.heap.size } := ⟨_, rfl⟩
  obtain ⟨m, hm⟩ : ∃ m, m = w.heap.size + 1 := ⟨_, rfl⟩
  obtain ⟨W1, hW1⟩ : ∃ W1, (w.alloc (.deferred (some []))).alloc (.loop (L .ready)) = W1 := ⟨_, rfl⟩
  have hl1 : W1.heap[m]? = some (.loop (L .ready)) := by
    have := World.alloc_heap_new (w.alloc (.deferred (some []))) (.loop (L .ready))
    rwa [hW1, World.size_alloc, ← hm] at this
  have hk1 : W1.heap[w.heap.size]? = some (.deferred (some [])) := by
    rw [← hW1]
    exact (Below.heap_alloc _ _ _ (by simp)).trans (World.alloc_heap_new w _)
  have hb1 : Below w.heap.size w W1 := by
    rw [← hW1]
    exact ((Below.refl _ w).alloc (Nat.le_refl _) _).alloc (by simp) _
  have hi1 : I [] W1 := by
    rw [← hW1]
    exact hI.alloc _ (hI.alloc _ h0)
  refine ⟨m, [{ target := .collected w.heap.size, args := #[] }], W1, { target := .fn (.func gf) lb, args := #[.func (.yield m) #[] #[]] }, W1, gf, #[.func (.yield m) #[] #[]] ++ lb, W1, ?_, ?_, fun _ _ => trivial, ?_, fun h => (by cases h), ?_⟩
  · rw [← hW1, hL, hm]
    exact run_enterLoop_outer _ _ _ _ _
  · simp only [resolve, hg]
    simp [go_sem]
  · simp [invoke, go_sem, eg]
  refine (hseq m (fun pre W => I pre W ∧ W.heap[m]? = some (.loop (L .ready)) ∧ W.heap[w.heap.size]? = some (.deferred (some []))) W1 (hb0.trans (hb1.mono hb0.size)) ?_ ?_ ⟨hi1, hl1, hk1⟩).mono ?_
  · rintro pre A B row ⟨hi, hl, hk⟩ hg' hr
    exact ⟨hI _ _ _ row hi hg' (fun r e => by
      obtain ⟨h1, o, ho, hw⟩ := hr r e
      exact ⟨Nat.le_trans hb1.size h1, o, ho, Obj.not_cells_of_walk hw⟩), (grownBy_keeps hg' (fun r e => (hr r e).2) hl rfl).trans hl, (grownBy_keeps hg' (fun r e => (hr r e).2) hk rfl).trans hk⟩
  · rintro pre x A0 ⟨hi, hl, hk⟩ hlen
    have hy := run_yield (P := P) (args := #[enc x]) hl (by rw [hL]; exact hps.symm)
    obtain ⟨A, hA⟩ : ∃ A, A0.alloc (box x) = A := ⟨_, rfl⟩
    have hw0 : KeepsWalks A0 A := by rw [← hA]; exact KeepsWalks.alloc _ _
    have hp : A.heap[A0.heap.size]? = some (box x) := by rw [← hA]; exact World.alloc_heap_new _ _
    have hml0 : m < A0.heap.size := (Array.getElem?_eq_some_iff.1 hl).1
    have hi : I pre A := by rw [← hA]; exact hI.alloc _ hi
    have hl : A.heap[m]? = some (.loop (L .ready)) := by rw [← hA]; exact (Below.heap_alloc _ _ _ hml0).trans hl
    have hk : A.heap[w.heap.size]? = some (.deferred (some [])) := by rw [← hA]; exact (Below.heap_alloc _ _ _ (by omega)).trans hk
    have hml : m < A.heap.size := (Array.getElem?_eq_some_iff.1 hl).1
    have hbr := run_beginRound (P := P) hl (by rw [hL])
    obtain ⟨A2, hA2⟩ : ∃ A2, A.putObj m (.loop (L .busy)) = A2 := ⟨_, rfl⟩
    have e2 : ({ L .ready with state := .busy } : Loop) = L .busy := by rw [hL]
    rw [e2, hA2] at hbr
    have hl2 : A2.heap[m]? = some (.loop (L .busy)) := by rw [← hA2]; exact World.putObj_heap_same hml
    have hk2 : A2.heap[w.heap.size]? = some (.deferred (some [])) := by rw [← hA2]; exact (World.putObj_heap_other (by omega)).trans hk
    have hi2 : I pre A2 := by rw [← hA2]; exact hI.putObj _ hi (by omega) hl rfl
    have hw2 : KeepsWalks A A2 := by rw [← hA2]; exact KeepsWalks.putObj _ hl rfl
    have hp2 : A2.heap[A0.heap.size]? = some (box x) := by rw [← hA2]; exact (World.putObj_heap_other (by omega)).trans hp
    rw [hL] at hy
    refine ⟨fn, _, assign, body, hy, roundIn_of_wpIn hfn (hassign _ x A0 _ ?_)⟩
    rw [hA]
    refine ⟨_, hbr, ?_⟩
    refine wpIn_mono (hbody _ pre x A0.heap.size A2 hi2 hlen (by omega) hp2) ?_
    rintro e a3 W3 ⟨rfl, hk3, hi3⟩
    have hl3 := hk3.same _ _ hl2 rfl
    have hd3 := hk3.same _ _ hk2 rfl
    have hm3 : m < W3.heap.size := (Array.getElem?_eq_some_iff.1 hl3).1
    have her := run_endRound (P := P) none hl3
    refine ⟨_, _, her, rfl, ⟨hI.putObj _ hi3 (by omega) hl3 rfl, ?_, (World.putObj_heap_other (by omega)).trans hd3⟩, ((hw0.trans hw2).trans hk3.walks).trans (KeepsWalks.putObj _ hl3 rfl)⟩
    rw [World.putObj_heap_same hm3, hL]
    rfl
  · rintro e W2 ⟨⟨v, rfl⟩, xs, hS, hi, hl, hk⟩
    have hel := run_endLoop (P := P) hl (by rw [hL]; simp)
    have hp : (L .ready).pending = none := by rw [hL]
    rw [hp] at hel
    refine ⟨none, _, hel, ?_⟩
    exact hdone w.heap.size xs _ (Nat.le_refl _) hS (hI.putObj _ hi (by omega) hl rfl) ((World.putObj_heap_other (by omega)).trans hk)

end Go.Proofs.Ytmlocdfjjgbnjaa.Y
