/-
  Walks of layer crc: the table.
-/
import Derived.Test.YtfcccgohkmpofaaCrcW1
import Derived.Deep.WholeRow
import Derived.Laws.CopyOwn
namespace Go.Proofs.Ytfcccgohkmpofaa
open Go.RowKit

/-- the table's cells when k of them are laid -/
def tbl (k : Nat) : Array Value := ((List.range 256).map fun i => Value.int .u32 ((if i < k then C.s8 i else 0 : Nat) : Int)).toArray

theorem tbl_size (k : Nat) : (tbl k).size = 256 := by simp [tbl]
theorem tbl_get (k i : Nat) (h : i < 256) : (tbl k)[i]? = some (.int .u32 ((if i < k then C.s8 i else 0 : Nat) : Int)) := by simp [tbl, h]
theorem tbl_zero : tbl 0 = Array.replicate 256 (.int .u32 0) := by
  apply Array.ext_getElem?
  intro i
  by_cases h : i < 256
  · rw [tbl_get 0 i h]; simp [h]
  · rw [Array.getElem?_eq_none (by rw [tbl_size]; omega), Array.getElem?_eq_none (by simp; omega)]
theorem tbl_set (k : Nat) (h : k < 256) : (tbl k).setIfInBounds k (.int .u32 (C.s8 k : Nat)) = tbl (k + 1) := by
  apply Array.ext_getElem?
  intro i
  by_cases hi : i < 256
  · rw [tbl_get (k + 1) i hi, Array.getElem?_setIfInBounds]
    by_cases e : k = i
    · subst e; simp [tbl_size, h]
    · rw [if_neg e, tbl_get k i hi]
      by_cases h1 : i < k
      · rw [if_pos h1, if_pos (by omega)]
      · rw [if_neg h1, if_neg (by omega)]
  · rw [Array.getElem?_eq_none (by simp [tbl_size]; omega), Array.getElem?_eq_none (by rw [tbl_size]; omega)]
theorem tbl_at (i : Nat) (h : i < 256) : (tbl 256)[i]? = some (.int .u32 (C.s8 i : Nat)) := by rw [tbl_get 256 i h, if_pos h]
theorem tbl_in (i : Nat) (h : i < (tbl 256).size) : (tbl 256)[i]'h = .int .u32 (C.s8 i : Nat) := by
  have := tbl_at i (by rw [tbl_size] at h; exact h)
  rw [Array.getElem?_eq_getElem h] at this
  exact Option.some.inj this
theorem tbl_one (k : Nat) : (tbl k).all (·.oneCell') = true := by
  rw [Array.all_eq_true_iff_forall_mem]
  intro x hx
  simp [tbl] at hx
  obtain ⟨a, _, rfl⟩ := hx
  rfl

theorem Try.infoTab : (Try.prog.info? 27).map (fun i => (i.zero, i.size)) = some (some (.agg (Array.replicate 256 (.int .u32 0))), 256) := by kernel_rfl

theorem zeroTab : ∀ w, (zeroValue 27).run Try.prog w = .ok (.agg (tbl 0)) w := by rw [tbl_zero]; exact (zero_of_info Try.infoTab).1
theorem sizeTab (k : Nat) : (Try.prog.info? 27).map (·.size) = some (tbl k).size := by rw [tbl_size]; exact (zero_of_info Try.infoTab).2

theorem store_tab {w : World} {g k : Nat} {t : TypeId} (hg : w.heap[g]? = some (.cells (tbl k) t (0, 0))) :
    (storeCells ⟨g, 0, none⟩ (tbl 256).toList).run Try.prog w = .ok () (w.setRow g (tbl 256)) := by
  have h := run_storeCells_from (P := Try.prog) g t (tbl 256).toList 0 (tbl k) w hg (by simp [tbl_size]) (fun v hv => (Array.all_eq_true_iff_forall_mem.1 (tbl_one 256)) v (by simpa using hv))
  simpa using h

set_option maxRecDepth 1000000 in
set_option maxHeartbeats 1000000 in
theorem table_any (w : World) :
    Calls Try.prog 14 #[] w fun e w' => e = .returned (.agg (tbl 256)) ∧ Below w.heap.size w w' := by
  have hz0 := zeroTab
  go_enter Try.func14, Try.ntmps14
  go_wp2
  go_loopw [3] (fun i wr => ∃ k : Nat, k ≤ 256 ∧ i = .int .i64 k ∧ wr = (w.alloc (.cells (tbl 0) 27)).alloc (.cells (tbl k) 27)) (fun i _ => 256 - (intOf i).toNat)
  case atStart => exact ⟨0, by omega, rfl, rfl⟩
  case round =>
    obtain ⟨k, hk, rfl, rfl⟩ := hrel
    by_cases hlt : k < 256
    · have hc : (tbl k)[k]? = some (.int .u32 ((if k < k then C.s8 k else 0 : Nat) : Int)) := tbl_get k k hlt
      rw [if_neg (Nat.lt_irrefl k)] at hc
      have HS := Lib.hid (tbl_set k hlt)
      go_wp2_with (go_at_call 17; refine (eightSteps_any k _ (by omega)).mono ?_; rintro e w' ⟨rfl, rfl⟩)
      go_roundw
      case rel => exact ⟨k + 1, by omega, by go_num, by rw [← HS.out]⟩
      case measure => simp [intOf]; omega
    · obtain rfl : k = 256 := by omega
      go_wp2_with fail
      have hg1 : ((w.alloc (.cells (tbl 0) 27)).alloc (.cells (tbl 256) 27)).heap[w.heap.size + 1]? = some (.cells (tbl 256) 27 (0, 0)) := heap_alloc2_new w _ _
      have hg0 : ((w.alloc (.cells (tbl 0) 27)).alloc (.cells (tbl 256) 27)).heap[w.heap.size]? = some (.cells (tbl 0) 27 (0, 0)) := heap_alloc2_old w _ _
      have hb : Below w.heap.size w ((w.alloc (.cells (tbl 0) 27)).alloc (.cells (tbl 256) 27)) := ((Below.refl _ _).alloc (Nat.le_refl _) _).alloc (by simp) _
      refine wp_load_row 27 _ rfl (w.heap.size + 1) rfl 27 (tbl 256) (0, 0) _ hg1 Try.underlying27 rfl (sizeTab 256) ?_
      generalize (w.alloc (.cells (tbl 0) 27)).alloc (.cells (tbl 256) 27) = w1 at hg0 hb
      clear hg1
      have hts := tbl_size 256
      have hst := store_tab hg0
      go_wp2_with fail
      refine bodyPost_ret (v := .agg (tbl 256)) (results_cell_row rfl _ _ w.heap.size 27 (tbl 256) (0, 0) _ rfl (setRow_heap _ _ _ _ _ _ hg0) Try.underlying27 rfl (sizeTab 256)) rfl ⟨rfl, below_setRow hb (Nat.le_refl _) _⟩

end Go.Proofs.Ytfcccgohkmpofaa
