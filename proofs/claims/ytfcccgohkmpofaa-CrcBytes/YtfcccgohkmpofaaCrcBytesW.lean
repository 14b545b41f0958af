/-
  The law CrcBytes, walked: a byte more is one step of the table.
-/
import Derived.Test.YtfcccgohkmpofaaCrcW5
import Derived.Deep.RegionHeld3
import Derived.Deep.AppendLies
namespace Go.Proofs.Ytfcccgohkmpofaa
open Go.RowKit

theorem Sl.one (w : World) (x : UInt8) : Sl (w.alloc (.cells #[.int .u8 (x.toNat : Int)] 5)) (w.heap.size + 1) (.slice (some ⟨w.heap.size, 0, none⟩) 1 1) [x] :=
  Sl.laid (l := [x]) (by simp) (by simp) (fun j hj => by
    obtain rfl : j = 0 := by simp at hj; omega
    rw [World.cell?_alloc_mark]; rfl)

theorem Sl.one_grown {W0 W1 : World} {g : Nat} {row : Option Nat} (x : UInt8) (hgrow : W0.grownBy W1 row) (hc : W0.cell? ⟨g, 0, none⟩ = some (.int .u8 (x.toNat : Int))) (hlt : g < W0.heap.size) (hne : some g ≠ row) : Sl W1 (g + 1) (.slice (some ⟨g, 0, none⟩) 1 1) [x] :=
  Sl.laid (l := [x]) (by simp) (by simp) (fun j hj => by
    obtain rfl : j = 0 := by simp at hj; omega
    rw [hgrow.cell_far _ hlt hne]; exact hc)

set_option maxRecDepth 1000000 in
set_option maxHeartbeats 2000000 in
theorem crcBytes_walk (v : Value) (l : List UInt8) (x : UInt8) (w : World) (h : Sl w w.heap.size v l) (hl : l.length ≤ maxLen) :
    Calls Try.prog 8 #[v, .int .u8 (x.toNat : Int)] w fun e w' => e = .returned (.bool true) ∧ Below w.heap.size w w' := by
  have HS := Lib.hid h
  have HL := Lib.hid hl
  unfold maxLen at hl
  obtain ⟨A, cap, rfl, hcap, _⟩ := h
  have hz0 := zeroTab
  have hts := tbl_size 256
  by_cases hlen : 2000 < l.length
  · go_enter Try.func8, Try.ntmps8
    go_wp2_with fail
    refine (awake_any _).mono ?_
    rintro e w1 ⟨rfl, hb1⟩
    go_wp2
    go_ret
    exact ⟨rfl, hb1⟩
  · have hld : decide ((2000 : Int) < (l.length : Int)) = false := decide_eq_false (by omega)
    have hsl := C.sum_lt l
    have hfl := u32_flip (C.sum l) hsl
    go_enter Try.func8, Try.ntmps8
    go_wp2_with fail
    refine (awake_any _).mono ?_
    rintro e w1 ⟨rfl, hb1⟩
    go_wp2_with fail
    refine (of_any _ l _ w.heap.size hb1.size (HS.out.below hb1) HL.out).mono ?_
    rintro e w2 ⟨rfl, hbn⟩
    have hb2 := hb1.trans (hbn.mono hb1.size)
    clear hbn hb1
    go_wp2_with fail
    refine (table_any w2).mono ?_
    rintro e w3 ⟨rfl, hbn⟩
    have hb3 := hb2.trans (hbn.mono hb2.size)
    clear hbn hb2
    have hst := run_storeCells_new (P := Try.prog) w3 27 (tbl 0) (tbl 256) (sizeTab 256) (by rw [tbl_size, tbl_size]) (tbl_one 256)
    go_wp2_with fail
    clear hz0 hst
    have hz3 := hb3.size
    have hb4 := hb3.alloc hb3.size (.cells (tbl 256) 27)
    have hq := C.flip_lt hsl
    have HF := Lib.hid (C.sum_snoc l x)
    obtain ⟨q, hqe⟩ : ∃ q, q = C.flip (C.sum l) := ⟨_, rfl⟩
    rw [← hqe] at hq HF ⊢
    clear hqe hfl
    have h8 := u8_mix q x
    have hw8 : IntKind.u8.wrap (q : Int) = (q : Int) % 256 := IntKind.wrap_u8' _
    have hml := mix_lt q x
    have HU := Lib.hid (upd_table q x)
    have hul := C.upd_lt x hq
    obtain ⟨m, hm⟩ : ∃ m, m = q % 256 ^^^ x.toNat := ⟨_, rfl⟩
    rw [← hm] at h8 hml HU
    clear hm
    have hs8 := C.s8_lt (show m < 4294967296 by omega)
    have hct : (w3.alloc (.cells (tbl 256) 27)).cell? ⟨w3.heap.size, m, none⟩ = some (.int .u32 (C.s8 m : Nat)) := by
      rw [World.cell?_alloc_mark]; exact tbl_at m hml
    obtain ⟨t, ht⟩ : ∃ t, t = C.s8 m := ⟨_, rfl⟩
    rw [← ht] at hct HU hs8
    clear ht
    have h32 := u32_mix t q hs8 hq
    rw [HU.out] at h32
    have hfl := u32_flip (C.upd q x) hul
    have hgt : w3.heap.size < (w3.alloc (.cells (tbl 256) 27)).heap.size := by simp
    obtain ⟨gt, hgt0⟩ : ∃ gt, gt = w3.heap.size := ⟨_, rfl⟩
    rw [← hgt0] at hct hgt ⊢
    generalize w3.alloc (.cells (tbl 256) 27) = w4 at hb4 hct hgt
    clear hgt0 hb3 hz3 HU hts
    have hm0 : (0 : Int) ≤ (m : Int) := by omega
    have hm1 : (m : Int) < 256 := by omega
    have hz4 := hb4.size
    have hgl : w.heap.size ≤ w4.drew.heap.size := hz4
    go_region_held3 (fun w' => w'.cell? ⟨gt, m, none⟩ = some (.int .u32 (t : Int)))
      (first | assumption | go_keep)
      (first
        | (refine step_append_sl (by rfl) _ _ (by rfl) (base := w4.heap.size) (B := w.heap.size) (xs := []) (l := l) (by rfl) (by rfl) ((Own.none_at (w := w4.drew) (g := w4.heap.size) rfl (Nat.le_refl _))) (HS.out.below (hb4.drew.alloc hgl _)) (by simp; omega) (by simp) ?_
           intro v1 w5 hown hgrow hblk
           have hz5 := hgrow.size
           have hf5 : Below w.heap.size w w5 := Below.grown (hb4.drew.alloc hgl _) hgrow (by simp; omega) (fun j hj => by simp [Value.ownBlock] at hj; omega)
           have hs5 : w5.cell? ⟨gt, m, none⟩ = some (.int .u32 (t : Int)) := by
             rw [hgrow.cell_far _ (by simp; omega) (by simp [Value.ownBlock]; omega)]; assumption)
        | (refine step_append_sl (by rfl) _ _ (by rfl) (base := w4.heap.size) (B := w.heap.size) (xs := []) (l := l) (by rfl) (by rfl) (World.ownsRow.alloc (Own.none_at (w := w4.drew) (g := w4.heap.size) rfl (Nat.le_refl _)) _) (HS.out.below ((hb4.drew.alloc hgl _).alloc (by simp; omega) _)) (by simp; omega) (by simp; omega) ?_
           intro v1 w5 hown hgrow hblk
           have hz5 := hgrow.size
           have hf5 : Below w.heap.size w w5 := Below.grown ((hb4.drew.alloc hgl _).alloc (by simp; omega) _) hgrow (by simp; omega) (fun j hj => by simp [Value.ownBlock] at hj; omega)
           have hsx := Sl.one_grown (g := w4.heap.size + 1) x hgrow (Joins.cell_alloc_mark_at (w4.alloc (.cells #[] 5)) #[.int .u8 (x.toNat : Int)] 5 (0, 0) (w4.heap.size + 1) 0 (by simp)) (by simp) (by simp [Value.ownBlock])
           have hs5 : w5.cell? ⟨gt, m, none⟩ = some (.int .u32 (t : Int)) := by
             rw [hgrow.cell_far _ (by simp; omega) (by simp [Value.ownBlock]; omega)]; assumption)
        | (refine step_append_sl (by rfl) _ _ (by rfl) (base := w4.heap.size) (B := w.heap.size) (xs := []) (l := l) (by rfl) (by rfl) (Own.none_at (w := w4.drew.alloc (.cells #[.int .u8 (x.toNat : Int)] 5)) (g := w4.heap.size + 1) (by simp) (by omega)) (HS.out.below ((hb4.drew.alloc hgl _).alloc (by simp; omega) _)) (by simp; omega) (by simp; omega) ?_
           intro v1 w5 hown hgrow hblk
           have hz5 := hgrow.size
           have hf5 : Below w.heap.size w w5 := Below.grown ((hb4.drew.alloc hgl _).alloc (by simp; omega) _) hgrow (by simp; omega) (fun j hj => by simp [Value.ownBlock] at hj; omega)
           have hsx := Sl.one_grown (g := w4.heap.size) x hgrow ((World.cell?_alloc_lt (w4.alloc (.cells #[.int .u8 (x.toNat : Int)] 5)) _ ⟨w4.heap.size, 0, none⟩ (by simp)).trans (World.cell?_alloc_mark w4 #[.int .u8 (x.toNat : Int)] 5 (0, 0) 0)) (by simp; omega) (by simp [Value.ownBlock])
           have hs5 : w5.cell? ⟨gt, m, none⟩ = some (.int .u32 (t : Int)) := by
             rw [hgrow.cell_far _ (by simp; omega) (by simp [Value.ownBlock]; omega)]; assumption)
        | (refine step_append_sl (by rfl) _ _ (by rfl) (base := w4.heap.size) (B := w5.heap.size + 1) (xs := l) (l := [x]) (by rfl) (by rfl) (World.ownsRow.alloc hown _) (Sl.one w5 x) (by simp; omega) (by simp at hz5 ⊢; omega) ?_
           intro v2 w6 hown2 hgrow2 hblk2
           have hf6 : Below w.heap.size w w6 := Below.grown (hf5.alloc hf5.size _) hgrow2 (by have := hf5.size; simp; omega) (fun j hj => by have := World.ownsRow.lt hown j hj; omega)
           have hne2 : some gt ≠ v1.ownBlock := fun e => by have := World.ownsRow.lt hown gt e.symm; omega
           have hs6 : w6.cell? ⟨gt, m, none⟩ = some (.int .u32 (t : Int)) := by
             rw [hgrow2.cell_far _ (by simp at hz5 ⊢; omega) hne2]; assumption
           have hz6 := hgrow2.size)
        | (refine step_append_sl (by rfl) _ _ (by rfl) (base := w4.heap.size) (xs := l) (l := [x]) (by rfl) (by rfl) hown hsx (by simp; omega) (by simp at hz5 ⊢; omega) ?_
           intro v2 w6 hown2 hgrow2 hblk2
           have hf6 : Below w.heap.size w w6 := Below.grown hf5 hgrow2 hf5.size (fun j hj => by have := World.ownsRow.lt hown j hj; omega)
           have hne2 : some gt ≠ v1.ownBlock := fun e => by have := World.ownsRow.lt hown gt e.symm; omega
           have hs6 : w6.cell? ⟨gt, m, none⟩ = some (.int .u32 (t : Int)) := by
             rw [hgrow2.cell_far _ (by simp at hz5 ⊢; omega) hne2]; assumption
           have hz6 := hgrow2.size)
        | (go_at_call 10
           refine (of_any _ (l ++ [x]) _ w6.heap.size (Nat.le_refl _) hown2.sl (by unfold maxLen; simp; omega)).mono ?_
           rw [HF.out]
           rintro e w7 ⟨rfl, hbn⟩
           have hf7 := hf6.trans (hbn.mono hf6.size)
           have hs7 : w7.cell? ⟨gt, m, none⟩ = some (.int .u32 (t : Int)) := by
             rw [hbn.cell (by show gt < w6.heap.size; simp at hz5 hz6; omega)]; assumption))
    all_goals (try go_wp2)
    all_goals go_ret
    all_goals exact ⟨rfl, hf7⟩

theorem crcBytes_walk' (v : Value) (l : List UInt8) (n : Nat) (w : World) (h : Sl w w.heap.size v l) (hl : l.length ≤ maxLen) (hn : n < 256) :
    Calls Try.prog 8 #[v, .int .u8 (n : Int)] w fun e w' => e = .returned (.bool true) ∧ Below w.heap.size w w' := by
  have e : (UInt8.ofNat n).toNat = n := by rw [UInt8.toNat_ofNat']; exact Nat.mod_eq_of_lt hn
  have h1 := crcBytes_walk v l (UInt8.ofNat n) w h hl
  rw [e] at h1
  exact h1

end Go.Proofs.Ytfcccgohkmpofaa
