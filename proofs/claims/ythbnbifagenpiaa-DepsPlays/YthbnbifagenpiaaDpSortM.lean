/-
  The keys of a map keyed by int64, collected and sorted (slices.Sorted over maps.Keys): over maps of maps, over sets, over a nil set.
-/
import Derived.Test.YthbnbifagenpiaaDpKeysO
import Derived.Test.YthbnbifagenpiaaDpKeysW
import Derived.Test.YthbnbifagenpiaaDpShelf
namespace Go.Proofs.Ythbnbifagenpiaa
open Go.RowKit Go.Shelf

theorem sortsI (k : Nat) : AnyZI.SortsIn Try.prog sortedA_ren Fence.wide k :=
  ⟨fun blk off cap ss W hH hblk hsz => callsIn_wide.2 (AnyM.slices_Sort_int sortA blk off cap ss W hH hblk hsz),
   fun p cap W => callsIn_wide.2 (AnyM.slices_Sort_int_none sortA p cap W)⟩

theorem sorted_ksi {m : Int → Option Value} {ks : List Int} (h : Ksi m ks) : T.Rises (ks.mergeSort (fun x y => decide (x ≤ y))) ∧ ∀ k, k ∈ ks.mergeSort (fun x y => decide (x ≤ y)) ↔ (m k).isSome = true := by
  have hp := List.mergeSort_perm ks (fun x y => decide (x ≤ y))
  refine ⟨?_, fun k => by rw [hp.mem_iff]; exact h.all k⟩
  have h1 : (ks.mergeSort (fun x y => decide (x ≤ y))).Pairwise (fun x y => decide (x ≤ y) = true) := List.pairwise_mergeSort (fun a b c => by simp only [decide_eq_true_eq]; omega) (fun a b => by simp only [Bool.or_eq_true, decide_eq_true_eq]; omega) ks
  have h2 : (ks.mergeSort (fun x y => decide (x ≤ y))).Nodup := hp.nodup_iff.2 h.nod
  exact (h1.and h2).imp (fun ⟨a, b⟩ => by have a := of_decide_eq_true a; omega)

/-- slices.Sorted(maps.Keys(m)): m's keys, rising -/
theorem sortedO (w : World) (b n : Nat) (m : Int → Option Value) (hown : Mi w b n m) (hn : n ≤ 100000) :
    CallsIn Fence.wide 5 Try.prog 28 #[.func (.func 35) #[] #[.pointer (some ⟨w.heap.size, 0, none⟩)]] (w.alloc (.cells #[.map (some b)] 44)) fun e w' => ∃ (v : Value) (L : List Int), e = .returned v ∧ T.Rises L ∧ (∀ k, k ∈ L ↔ (m k).isSome = true) ∧ SlN w' (S.New w w') v L ∧ Below w.heap.size w w' := by
  have hb1 : Below w.heap.size w (w.alloc (.cells #[.map (some b)] 44)) := (Below.refl _ _).alloc (Nat.le_refl _) _
  have hseq : SeqGives Fence.wide 2 Try.prog 35 #[.pointer (some ⟨w.heap.size, 0, none⟩)] encZ (Ksi m) n (w.alloc (.cells #[.map (some b)] 44)) :=
    keysGive_o 2 (by omega) w.heap.size b n m _ (by simp) (by simp) (hown.below hb1)
  have cS := AnyZI.sorted_in sortedA Fence.wide 5 trivial trivial trivial trivial rfl (by omega) (sortsI _) (enters_of Try.func34 (by kernel_rfl) rfl) 35 #[.pointer (some ⟨w.heap.size, 0, none⟩)] trivial (enters_of Try.func35 (by kernel_rfl) rfl) _ _ (by unfold maxLen; omega) (by omega) _ hseq
  change CallsIn _ _ Try.prog 28 _ _ _ at cS
  refine cS.mono ?_
  rintro e w' ⟨v, ss, rfl, hS, hrow, hnil, hb⟩
  obtain ⟨h1, h2⟩ := sorted_ksi hS
  refine ⟨v, _, rfl, h1, h2, ?_, hb1.trans (hb.mono (by simp))⟩
  have hl : (ss.mergeSort (fun x y => decide (x ≤ y))).length = ss.length := List.length_mergeSort ..
  rw [← hl] at hrow
  exact (S.Sg.of_own hrow).wider (fun k hk => ⟨by have := hk.1; simp at this; omega, hk.2⟩)
/-- slices.Sorted(maps.Keys(m)): m's keys, rising -/
theorem sortedW (w : World) (b n : Nat) (m : Int → Option Value) (hown : Mi w b n m) (hn : n ≤ 100000) :
    CallsIn Fence.wide 5 Try.prog 28 #[.func (.func 36) #[] #[.pointer (some ⟨w.heap.size, 0, none⟩)]] (w.alloc (.cells #[.map (some b)] 58)) fun e w' => ∃ (v : Value) (L : List Int), e = .returned v ∧ T.Rises L ∧ (∀ k, k ∈ L ↔ (m k).isSome = true) ∧ SlN w' (S.New w w') v L ∧ Below w.heap.size w w' := by
  have hb1 : Below w.heap.size w (w.alloc (.cells #[.map (some b)] 58)) := (Below.refl _ _).alloc (Nat.le_refl _) _
  have hseq : SeqGives Fence.wide 2 Try.prog 36 #[.pointer (some ⟨w.heap.size, 0, none⟩)] encZ (Ksi m) n (w.alloc (.cells #[.map (some b)] 58)) :=
    keysGive_w 2 (by omega) w.heap.size b n m _ (by simp) (by simp) (hown.below hb1)
  have cS := AnyZI.sorted_in sortedA Fence.wide 5 trivial trivial trivial trivial rfl (by omega) (sortsI _) (enters_of Try.func34 (by kernel_rfl) rfl) 36 #[.pointer (some ⟨w.heap.size, 0, none⟩)] trivial (enters_of Try.func36 (by kernel_rfl) rfl) _ _ (by unfold maxLen; omega) (by omega) _ hseq
  change CallsIn _ _ Try.prog 28 _ _ _ at cS
  refine cS.mono ?_
  rintro e w' ⟨v, ss, rfl, hS, hrow, hnil, hb⟩
  obtain ⟨h1, h2⟩ := sorted_ksi hS
  refine ⟨v, _, rfl, h1, h2, ?_, hb1.trans (hb.mono (by simp))⟩
  have hl : (ss.mergeSort (fun x y => decide (x ≤ y))).length = ss.length := List.length_mergeSort ..
  rw [← hl] at hrow
  exact (S.Sg.of_own hrow).wider (fun k hk => ⟨by have := hk.1; simp at this; omega, hk.2⟩)
/-- slices.Sorted(maps.Keys(m)): of a nil map: none -/
theorem sortedNil (w : World) :
    CallsIn Fence.wide 5 Try.prog 28 #[.func (.func 36) #[] #[.pointer (some ⟨w.heap.size, 0, none⟩)]] (w.alloc (.cells #[.map none] 58)) fun e w' => ∃ (v : Value) (L : List Int), e = .returned v ∧ T.Rises L ∧ L = [] ∧ SlN w' (S.New w w') v L ∧ Below w.heap.size w w' := by
  have hb1 : Below w.heap.size w (w.alloc (.cells #[.map none] 58)) := (Below.refl _ _).alloc (Nat.le_refl _) _
  have hseq : SeqGives Fence.wide 2 Try.prog 36 #[.pointer (some ⟨w.heap.size, 0, none⟩)] encZ (Ksi (fun _ => none)) 0 (w.alloc (.cells #[.map none] 58)) :=
    keysGive_nil 2 w.heap.size _ (by simp) (by simp)
  have cS := AnyZI.sorted_in sortedA Fence.wide 5 trivial trivial trivial trivial rfl (by omega) (sortsI _) (enters_of Try.func34 (by kernel_rfl) rfl) 36 #[.pointer (some ⟨w.heap.size, 0, none⟩)] trivial (enters_of Try.func36 (by kernel_rfl) rfl) _ _ (by unfold maxLen; omega) (by omega) _ hseq
  change CallsIn _ _ Try.prog 28 _ _ _ at cS
  refine cS.mono ?_
  rintro e w' ⟨v, ss, rfl, hS, hrow, hnil, hb⟩
  obtain ⟨h1, h2⟩ := sorted_ksi hS
  refine ⟨v, _, rfl, h1, List.eq_nil_iff_forall_not_mem.2 (fun k hk => by have := (h2 k).1 hk; cases this), ?_, hb1.trans (hb.mono (by simp))⟩
  have hl : (ss.mergeSort (fun x y => decide (x ≤ y))).length = ss.length := List.length_mergeSort ..
  rw [← hl] at hrow
  exact (S.Sg.of_own hrow).wider (fun k hk => ⟨by have := hk.1; simp at this; omega, hk.2⟩)
end Go.Proofs.Ythbnbifagenpiaa
