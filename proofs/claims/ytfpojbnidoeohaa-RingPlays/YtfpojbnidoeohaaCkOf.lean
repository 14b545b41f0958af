/-
  Sums of bytes, as the program makes them.
-/
import Derived.Test.YtfpojbnidoeohaaCkRef
import Derived.Deep.WholeRow
import Derived.Laws.CopyOwn
namespace Go.Proofs.Ytfpojbnidoeohaa
open Go.RowKit

theorem u32_and_one (a : Nat) (ha : a < 4294967296) : bits .and .u32 (a : Int) 1 = ((a % 2 : Nat) : Int) := by
  rw [← nat_mask1]; exact u32_and_nat a 1 ha (by decide)

theorem crcStep_any (n : Nat) (w : World) (hn : n < 4294967296) :
    Calls Try.prog 65 #[.int .u32 n] w fun e w' => e = .returned (.int .u32 (C.step n : Nat)) ∧ w = w' := by
  have ha := u32_and_one n hn
  have hx : bits .xor .u32 ((n : Int) / 2) 2197175160 = ((n / 2 ^^^ 2197175160 : Nat) : Int) := u32_xor_lit (n / 2) (by omega)
  by_cases h : n % 2 = 1
  · have HE := Lib.hid (show C.step n = (n / 2) ^^^ 2197175160 by rw [C.step, if_pos h])
    have hb : (((n % 2 : Nat) : Int) == 1) = true := by rw [h]; rfl
    clear h
    go_enter Try.func65, Try.ntmps65
    go_wp2
    go_ret
    exact ⟨ret_v (by rw [HE.out]; rfl), rfl⟩
  · have HE := Lib.hid (show C.step n = n / 2 by rw [C.step, if_neg h])
    have hb : (((n % 2 : Nat) : Int) == 1) = false := by rw [show n % 2 = 0 by omega]; rfl
    clear h
    go_enter Try.func65, Try.ntmps65
    go_wp2
    go_ret
    exact ⟨by rw [HE.out]; go_num, rfl⟩

theorem eightSteps_any (n : Nat) (w : World) (hn : n < 4294967296) :
    Calls Try.prog 64 #[.int .u32 n] w fun e w' => e = .returned (.int .u32 (C.s8 n : Nat)) ∧ w = w' := by
  go_enter Try.func64, Try.ntmps64
  go_wp2
  go_loop [0, 3] (fun v i => ∃ k : Nat, k ≤ 8 ∧ i = .int .i64 k ∧ v = .int .u32 (C.steps k n : Nat)) (fun _ i => 8 - (intOf i).toNat)
  case atStart => exact ⟨0, by omega, rfl, rfl⟩
  case round =>
    obtain ⟨k, hk, rfl, rfl⟩ := hrel
    by_cases hlt : k < 8
    · have hl := C.steps_lt k hn
      go_wp2_with (go_at_call 65; refine (crcStep_any _ _ hl).mono ?_; rintro e w' ⟨rfl, rfl⟩)
      go_round
      case rel => exact ⟨k + 1, by omega, by go_num, rfl⟩
      case measure => simp [intOf]; omega
    · obtain rfl : k = 8 := by omega
      go_wp2
      go_ret
      exact ⟨rfl, rfl⟩

/-- the table's cells when k of them are laid -/
def tbl (k : Nat) : Array Value := ((List.range 256).map fun i => Value.int .u32 ((if i < k then C.s8 i else 0 : Nat) : Int)).toArray

theorem tbl_size (k : Nat) : (tbl k).size = 256 := by simp [tbl]

theorem tbl_get (k i : Nat) (h : i < 256) : (tbl k)[i]? = some (.int .u32 ((if i < k then C.s8 i else 0 : Nat) : Int)) := by simp [tbl, h]

theorem tbl_zero : tbl 0 = Array.replicate 256 (.int .u32 0) := by
  apply Array.ext_getElem?
  intro i
  by_cases h : i < 256
  · rw [tbl_get 0 i h]; simp [h]
  · rw [Array.getElem?_eq_none (by rw [tbl_size]; omega), Array.getElem?_eq_none (by simp; omega)]

theorem tbl_set (k : Nat) (h : k < 256) : (tbl k).setIfInBounds k (.int .u32 (C.s8 k : Nat)) = tbl (k + 1) := by
  apply Array.ext_getElem?
  intro i
  by_cases hi : i < 256
  · rw [tbl_get (k + 1) i hi, Array.getElem?_setIfInBounds]
    by_cases e : k = i
    · subst e; simp [tbl_size, h]
    · rw [if_neg e, tbl_get k i hi]
      by_cases h1 : i < k
      · rw [if_pos h1, if_pos (by omega)]
      · rw [if_neg h1, if_neg (by omega)]
  · rw [Array.getElem?_eq_none (by simp [tbl_size]; omega), Array.getElem?_eq_none (by rw [tbl_size]; omega)]

theorem tbl_at (i : Nat) (h : i < 256) : (tbl 256)[i]? = some (.int .u32 (C.s8 i : Nat)) := by rw [tbl_get 256 i h, if_pos h]

theorem tbl_in (i : Nat) (h : i < (tbl 256).size) : (tbl 256)[i]'h = .int .u32 (C.s8 i : Nat) := by
  have := tbl_at i (by rw [tbl_size] at h; exact h)
  rw [Array.getElem?_eq_getElem h] at this
  exact Option.some.inj this

theorem tbl_one (k : Nat) : (tbl k).all (·.oneCell') = true := by
  rw [Array.all_eq_true_iff_forall_mem]
  intro x hx
  simp [tbl] at hx
  obtain ⟨a, _, rfl⟩ := hx
  rfl

theorem Try.infoTab : (Try.prog.info? 121).map (fun i => (i.zero, i.size)) = some (some (.agg (Array.replicate 256 (.int .u32 0))), 256) := by kernel_rfl

theorem zeroTab : ∀ w, (zeroValue 121).run Try.prog w = .ok (.agg (tbl 0)) w := by rw [tbl_zero]; exact (zero_of_info Try.infoTab).1

theorem sizeTab (k : Nat) : (Try.prog.info? 121).map (·.size) = some (tbl k).size := by rw [tbl_size]; exact (zero_of_info Try.infoTab).2

theorem store_tab {w : World} {g k : Nat} {t : TypeId} (hg : w.heap[g]? = some (.cells (tbl k) t (0, 0))) :
    (storeCells ⟨g, 0, none⟩ (tbl 256).toList).run Try.prog w = .ok () (w.setRow g (tbl 256)) := by
  have h := run_storeCells_from (P := Try.prog) g t (tbl 256).toList 0 (tbl k) w hg (by simp [tbl_size]) (fun v hv => (Array.all_eq_true_iff_forall_mem.1 (tbl_one 256)) v (by simpa using hv))
  simpa using h

set_option maxRecDepth 1000000 in
set_option maxHeartbeats 1000000 in
theorem table_any (w : World) :
    Calls Try.prog 62 #[] w fun e w' => e = .returned (.agg (tbl 256)) ∧ Below w.heap.size w w' := by
  have hz0 := zeroTab
  go_enter Try.func62, Try.ntmps62
  go_wp2
  go_loopw [3] (fun i wr => ∃ k : Nat, k ≤ 256 ∧ i = .int .i64 k ∧ wr = (w.alloc (.cells (tbl 0) 121)).alloc (.cells (tbl k) 121)) (fun i _ => 256 - (intOf i).toNat)
  case atStart => exact ⟨0, by omega, rfl, rfl⟩
  case round =>
    obtain ⟨k, hk, rfl, rfl⟩ := hrel
    by_cases hlt : k < 256
    · have hc : (tbl k)[k]? = some (.int .u32 ((if k < k then C.s8 k else 0 : Nat) : Int)) := tbl_get k k hlt
      rw [if_neg (Nat.lt_irrefl k)] at hc
      have HS := Lib.hid (tbl_set k hlt)
      go_wp2_with (go_at_call 64; refine (eightSteps_any k _ (by omega)).mono ?_; rintro e w' ⟨rfl, rfl⟩)
      go_roundw
      case rel => exact ⟨k + 1, by omega, by go_num, by rw [← HS.out]⟩
      case measure => simp [intOf]; omega
    · obtain rfl : k = 256 := by omega
      go_wp2_with fail
      have hg1 : ((w.alloc (.cells (tbl 0) 121)).alloc (.cells (tbl 256) 121)).heap[w.heap.size + 1]? = some (.cells (tbl 256) 121 (0, 0)) := heap_alloc2_new w _ _
      have hg0 : ((w.alloc (.cells (tbl 0) 121)).alloc (.cells (tbl 256) 121)).heap[w.heap.size]? = some (.cells (tbl 0) 121 (0, 0)) := heap_alloc2_old w _ _
      have hb : Below w.heap.size w ((w.alloc (.cells (tbl 0) 121)).alloc (.cells (tbl 256) 121)) := ((Below.refl _ _).alloc (Nat.le_refl _) _).alloc (by simp) _
      refine wp_load_row 121 _ rfl (w.heap.size + 1) rfl 121 (tbl 256) (0, 0) _ hg1 Try.underlying121 rfl (sizeTab 256) ?_
      generalize (w.alloc (.cells (tbl 0) 121)).alloc (.cells (tbl 256) 121) = w1 at hg0 hb
      clear hg1
      have hts := tbl_size 256
      have hst := store_tab hg0
      go_wp2_with fail
      refine bodyPost_ret (v := .agg (tbl 256)) (results_cell_row rfl _ _ w.heap.size 121 (tbl 256) (0, 0) _ rfl (setRow_heap _ _ _ _ _ _ hg0) Try.underlying121 rfl (sizeTab 256)) rfl ⟨rfl, below_setRow hb (Nat.le_refl _) _⟩

theorem u32_flip (c : Nat) (hc : c < 4294967296) : bits .xor .u32 IntKind.u32.max (c : Int) = (C.flip c : Nat) := u32_xor_nat 4294967295 c (by decide) hc

theorem u8_mix (c : Nat) (x : UInt8) : bits .xor .u8 ((c : Int) % 256) (x.toNat : Int) = ((c % 256 ^^^ x.toNat : Nat) : Int) := u8_xor_nat (c % 256) x.toNat (by omega) x.toNat_lt

theorem mix_lt (c : Nat) (x : UInt8) : c % 256 ^^^ x.toNat < 256 := Nat.xor_lt_two_pow (n := 8) (by omega) x.toNat_lt

theorem u32_mix (m c : Nat) (hm : m < 4294967296) (hc : c < 4294967296) : bits .xor .u32 (m : Int) ((c : Int) / 256) = ((m ^^^ c / 256 : Nat) : Int) := u32_xor_nat m (c / 256) hm (by omega)

theorem upd_table (c : Nat) (x : UInt8) : C.s8 (c % 256 ^^^ x.toNat) ^^^ c / 256 = C.upd c x := C.s8_table c x.toNat

set_option maxRecDepth 1000000 in
set_option maxHeartbeats 1000000 in
theorem more_any (c : Nat) (v : Value) (l : List UInt8) (w : World) (F : Nat → Prop) (hF : ∀ b, F b → b < w.heap.size) (h : SlB w F v l) (hc : c < 4294967296) (hl : l.length ≤ maxLen) :
    Calls Try.prog 57 #[.int .u32 c, v] w fun e w' => e = .returned (.int .u32 (C.more c l : Nat)) ∧ Below w.heap.size w w' := by
  unfold maxLen at hl
  obtain ⟨_, A, cap, rfl, hcap, hx⟩ := h
  have HX := Lib.hid hx
  clear hx
  have hz0 := zeroTab
  have hts := tbl_size 256
  have hfl := u32_flip c hc
  have hfc := C.flip_lt hc
  go_enter Try.func57, Try.ntmps57
  go_wp2_with fail
  refine (table_any w).mono ?_
  rintro e w1 ⟨rfl, hb1⟩
  have hst := run_storeCells_new (P := Try.prog) w1 121 (tbl 0) (tbl 256) (sizeTab 256) (by rw [tbl_size, tbl_size]) (tbl_one 256)
  go_wp2_with fail
  have HB := Lib.hid (hb1.alloc hb1.size (.cells (tbl 256) 121))
  have hz1 := hb1.size
  go_loop [0, 13] (fun v i => ∃ k q : Nat, k ≤ l.length ∧ i = .int .i64 k ∧ v = .int .u32 q ∧ Hid (q = C.run (C.flip c) (l.take k)) ∧ q < 4294967296) (fun _ i => l.length - (intOf i).toNat)
  case atStart => exact ⟨0, C.flip c, Nat.zero_le _, rfl, rfl, Lib.hid rfl, hfc⟩
  case round =>
    obtain ⟨k, q, hk, rfl, rfl, HQ, hq⟩ := hrel
    clear hfl hfc hst
    by_cases hlt : k < l.length
    · obtain ⟨a, rfl, hab, hcell⟩ := HX.out (by omega)
      have hck : (w1.alloc (.cells (tbl 256) 121)).cell? (a.add k) = some (.int .u8 (l[k].toNat : Int)) := by
        rw [World.cell?_alloc_lt _ _ _ (by rw [S.add_block]; have := hF _ hab; omega), hb1.cell (by rw [S.add_block]; exact hF _ hab)]
        exact hcell k _ (bytesV_at l k hlt)
      clear hcell
      have HS := Lib.hid (run_take_succ (C.flip c) l k hlt)
      obtain ⟨x, hxe⟩ : ∃ x, x = l[k] := ⟨_, rfl⟩
      rw [← hxe] at hck HS
      clear hxe
      have h8 := u8_mix q x
      have hml := mix_lt q x
      have HU := Lib.hid (upd_table q x)
      have hul := C.upd_lt x hq
      obtain ⟨m, hm⟩ : ∃ m, m = q % 256 ^^^ x.toNat := ⟨_, rfl⟩
      rw [← hm] at h8 hml HU
      clear hm
      have htb := tbl_in m (by rw [tbl_size]; exact hml)
      have hs8 := C.s8_lt (show m < 4294967296 by omega)
      obtain ⟨t, ht⟩ : ∃ t, t = C.s8 m := ⟨_, rfl⟩
      rw [← ht] at htb HU hs8
      clear ht
      have h32 := u32_mix t q hs8 hq
      go_wp2
      go_round
      case rel => exact ⟨k + 1, C.upd q x, by omega, by go_num, by rw [← HU.out], Lib.hid (by rw [HQ.out]; exact HS.out.symm), hul⟩
      case measure => simp [intOf]; omega
    · obtain rfl : k = l.length := by omega
      have hfl := u32_flip q hq
      go_wp2
      go_ret
      exact ⟨ret_v (by rw [C.more, ← List.take_length (l := l), ← HQ.out]; rfl), HB.out⟩

set_option maxRecDepth 100000 in
theorem of_any (v : Value) (l : List UInt8) (w : World) (F : Nat → Prop) (hF : ∀ b, F b → b < w.heap.size) (h : SlB w F v l) (hl : l.length ≤ maxLen) :
    Calls Try.prog 52 #[v] w fun e w' => e = .returned (.int .u32 (C.sum l : Nat)) ∧ Below w.heap.size w w' := by
  have HS := Lib.hid h
  clear h
  go_enter Try.func52, Try.ntmps52
  go_wp2_with fail
  refine (more_any 0 v l w F hF HS.out (by decide) hl).mono ?_
  rintro e w1 ⟨rfl, hb1⟩
  go_wp2
  go_ret
  exact ⟨rfl, hb1⟩

end Go.Proofs.Ytfpojbnidoeohaa
