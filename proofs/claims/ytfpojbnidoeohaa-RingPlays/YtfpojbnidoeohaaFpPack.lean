/-
  The program's frames: a frame's sector.
-/
import Derived.Test.YtfpojbnidoeohaaFpKit
import Derived.Test.YtfpojbnidoeohaaPkNum
import Derived.Test.YtfpojbnidoeohaaCkOf
namespace Go.Proofs.Ytfpojbnidoeohaa
open Go.RowKit

theorem info25 : (Try.prog.info? 5).map (fun i => (i.zero, i.size, i.bytes)) = some (some (.int .u8 0), 1, 1) := by kernel_rfl

/-- the two bytes ahead of a body, as they are laid -/
theorem sl_two (w : World) (c d : UInt8) : SlB (w.alloc (.cells #[.int .u8 (c.toNat : Int), .int .u8 (d.toNat : Int)] 5)) (fun b => b = w.heap.size) (.slice (some ⟨w.heap.size, 0, none⟩) 2 2) [c, d] :=
  ⟨rfl, _, 2, rfl, Nat.le_refl _, fun _ => ⟨_, rfl, rfl, fun j u hj => by
    rw [Addr.add_mid, cell_of_row _ _ _ #[.int .u8 (c.toNat : Int), .int .u8 (d.toNat : Int)] 5 (0, 0) (heap_alloc_new w _), Nat.zero_add]
    simpa [bytesV] using hj⟩⟩

set_option maxRecDepth 100000 in
theorem pack_long {w : World} {F : Nat → Prop} {v : Value} {f : R.Fr} (h : FrV w F v f) (hl : 50 < f.body.length) (hl' : f.body.length ≤ 1000) :
    Calls Try.prog 40 #[v] w fun r w' => r = .returned (.tuple #[nilB, .int .i64 3]) ∧ Below w.heap.size w w' := by
  obtain ⟨vb, rfl, hb⟩ := h
  obtain ⟨_, A, cap, rfl, hc, _⟩ := hb
  have hgt : (50 : Int) < (f.body.length : Int) := by omega
  go_enter Try.func40, Try.ntmps40
  go_wp2
  go_ret2
  exact ⟨rfl, (Below.refl _ _).alloc (Nat.le_refl _) _⟩

set_option maxRecDepth 100000 in
set_option maxHeartbeats 1000000 in
theorem pack_fits {w : World} {F : Nat → Prop} {v : Value} {f : R.Fr} (h : FrV w F v f) (hF : ∀ b, F b → b < w.heap.size) (hn : f.Num) (hl : f.body.length ≤ 50) :
    Calls Try.prog 40 #[v] w fun r w' => ∃ vb, r = .returned (.tuple #[vb, .int .i64 0]) ∧ SlB w' (S.New w w') vb (R.sector f) ∧ Below w.heap.size w w' := by
  obtain ⟨vb, rfl, hb⟩ := h
  obtain ⟨E, q, fl, b⟩ := f
  obtain ⟨hE, hQ⟩ := hn
  simp only at hb hl hE hQ ⊢
  obtain ⟨A, cap, rfl, hc⟩ : ∃ A cap, vb = .slice A b.length cap ∧ b.length ≤ cap := by obtain ⟨_, A, cap, e, hc, _⟩ := hb; exact ⟨A, cap, e, hc⟩
  obtain ⟨i5, hi5, hz0, hz1, hz2⟩ := info_parts info25
  have HB5 := Lib.hid (show i5.bytes * 64 ≤ 281474976710656 by rw [hz2]; decide)
  have hgt : ¬ (50 : Int) < (b.length : Int) := by omega
  have HBD := Lib.hid hb
  have HF := Lib.hid hF
  have hb0 : Below w.heap.size w (w.alloc (.cells #[.int .u32 (E : Int), .int .u32 (q : Int), .int .u8 (fl.toNat : Int), .slice A b.length cap] 61)) := (Below.refl _ _).alloc (Nat.le_refl _) _
  have R0 := Bk.new w [.int .u32 (E : Int), .int .u32 (q : Int), .int .u8 (fl.toNat : Int), .slice A b.length cap] 61 (g := w.heap.size) rfl
  clear hb hF
  go_enter Try.func40, Try.ntmps40
  go_wp2_with (at_make; refine wpList_make_own _ rfl _ _ 44 rfl w.heap.size 5 i5 (.int .u8 0) 1 Try.underlying44 hi5 hz0 hz1 .i64 .i64 64 64 rfl rfl rfl HB5.out (by decide) (by simp) ?_)
  intro w1 hown hgrow
  have hbm := (Below.refl _ _).grown hgrow (Nat.le_refl _) (fun j hj => by cases hj)
  have B1 := Buf.of_own hown
  have R1 := R0.step hbm
  have hb1 := below_two hb0 hbm
  obtain ⟨g, hg⟩ : ∃ g, g = w.heap.size + 1 := ⟨_, rfl⟩
  rw [← hg] at B1
  rw [← hg]
  have hgw : w.heap.size < g := by omega
  clear hown hgrow hbm hb0 R0 hg
  have c0 := R1.cell 0 _ rfl
  -- the numbers
  go_wp2_with fail
  refine (num_any E w1 hE).mono ?_
  rintro e w2 ⟨rfl, hb2⟩
  have R2 := R1.step hb2
  have B2 := B1.step hb2
  have hb2' := below_two hb1 hb2
  obtain ⟨w3, hr3, B3, hg3⟩ := B2.string (M.hiB 4 E) (n := 0) (n' := 4) rfl (by rw [M.hiB_len]) (by decide)
  have R3 := R2.grow hg3 (by omega)
  have hb3 := below_buf hb2' (by omega) hg3
  have HA := Lib.hid hr3
  have c1 := R3.cell 1 _ rfl
  clear R1 B1 hb1 hb2 R2 B2 hb2' hg3 hr3 c0
  go_wp2_with (at_builtin; refine wpList_app rfl _ _ 44 9 rfl rfl rfl HA.out ?_)
  clear HA
  refine (num_any q w3 hQ).mono ?_
  rintro e w4 ⟨rfl, hb4⟩
  have R4 := R3.step hb4
  have B4 := B3.step hb4
  have hb4' := below_two hb3 hb4
  obtain ⟨w5, hr5, B5, hg5⟩ := B4.string (M.hiB 4 q) (n := 4) (n' := 8) (by simp [M.hiB_len]) (by rw [M.hiB_len]) (by decide)
  have R5 := R4.grow hg5 (by omega)
  have hb5 := below_buf hb4' (by omega) hg5
  have HA := Lib.hid hr5
  have c2 := R5.cell 2 _ rfl
  have c3 := R5.cell 3 _ rfl
  clear R3 B3 hb3 hb4 R4 B4 hb4' hg5 hr5 c1
  -- the flag and how many
  obtain ⟨d, hd⟩ : ∃ d, d = UInt8.ofNat b.length := ⟨_, rfl⟩
  have hdn : (d.toNat : Int) = (b.length : Int) := by rw [hd]; simp; omega
  have s2 := sl_two w5 fl d
  rw [hdn] at s2
  have B6 := B5.step ((Below.refl w5.heap.size w5).alloc (Nat.le_refl _) (.cells #[.int .u8 (fl.toNat : Int), .int .u8 (b.length : Int)] 5))
  have R6 := R5.alloc (.cells #[.int .u8 (fl.toNat : Int), .int .u8 (b.length : Int)] 5)
  have hb6 := hb5.alloc hb5.size (.cells #[.int .u8 (fl.toNat : Int), .int .u8 (b.length : Int)] 5)
  obtain ⟨w7, hr7, B7, hg7⟩ := B6.slice s2 (n := 8) (n' := 10) (by simp [M.hiB_len]) rfl (by decide)
  clear s2
  have R7 := R6.grow hg7 (by omega)
  have hb7 := below_buf hb6 (by omega) hg7
  have HA7 := Lib.hid hr7
  have c37 := R7.cell 3 _ rfl
  clear R5 B5 hb5 R6 B6 hb6 hg7 hr7
  -- the body
  obtain ⟨w8, hr8, B8, hg8⟩ := B7.slice (HBD.out.below hb7 HF.out) (n := 10) (n' := 10 + b.length) (by simp [M.hiB_len]) rfl (by omega)
  have R8 := R7.grow hg8 (by omega)
  have hb8 := below_buf hb7 (by omega) hg8
  have HA8 := Lib.hid hr8
  have c38 := R8.cell 3 _ rfl
  clear R7 B7 hb7 hg8 hr8
  -- the zeros
  obtain ⟨w9, hr9, B9, hg9⟩ := B8.zeros (50 - b.length) (n := 10 + b.length) (n' := 60) (by simp [M.hiB_len]; omega) (by omega) (by decide) (by omega)
  have hb9 := below_buf hb8 (by omega) hg9
  have hkz : ((50 - b.length : Nat) : Int) = 50 - (b.length : Int) := by omega
  rw [hkz] at hr9
  have HA9 := Lib.hid hr9
  clear R8 B8 hb8 hg9 hr9
  have e60 : [] ++ M.hiB 4 E ++ M.hiB 4 q ++ [fl, d] ++ b ++ List.replicate (50 - b.length) 0 = R.sixty ⟨E, q, fl, b⟩ := by
    rw [hd]; simp [R.sixty, R.head]
  rw [e60] at B9
  clear hd hkz
  have HD := Lib.hid hdn
  clear hdn e60
  have HO := Lib.hid (of_any _ _ w9 _ (fun b hb => by rw [hb]; exact B9.lt) B9.sl (by unfold maxLen; rw [R.sixty_len hl]; omega))
  rw [R.sixty_len hl] at HO
  go_wp2_with (first | (at_builtin; refine wpList_app rfl _ _ 44 9 rfl rfl rfl HA.out ?_; clear HA) | (at_builtin; refine wpList_app rfl _ _ 44 44 rfl rfl rfl HA7.out ?_; clear HA7) | (at_builtin; refine wpList_app rfl _ _ 44 44 rfl rfl rfl HA8.out ?_; clear HA8) | (at_builtin; refine wpList_app rfl _ _ 44 3 rfl rfl rfl HA9.out ?_; clear HA9))
  refine HO.out.mono ?_
  rintro e wA ⟨rfl, hbA⟩
  have BA := B9.step hbA
  have hbA' := below_two hb9 hbA
  clear HO B9 hb9 hbA
  have hsum := C.sum_lt (R.sixty ⟨E, q, fl, b⟩)
  go_wp2_with fail
  refine (num_any (C.sum (R.sixty ⟨E, q, fl, b⟩)) wA hsum).mono ?_
  rintro e wB ⟨rfl, hbB⟩
  have BB := BA.step hbB
  have hbB' := below_two hbA' hbB
  obtain ⟨wC, hrC, BC, hgC⟩ := BB.string (M.hiB 4 (C.sum (R.sixty ⟨E, q, fl, b⟩))) (n := 60) (n' := 64) (R.sixty_len hl) (by rw [M.hiB_len]) (by decide)
  have hbC := below_buf hbB' (by omega) hgC
  have HA := Lib.hid hrC
  have hs := BC.sl
  have hlt := BC.lt
  have HS : Hid (SlB wC (S.New w wC) (.slice (some ⟨g, 0, none⟩) 64 64) (R.sector ⟨E, q, fl, b⟩)) := Lib.hid (by
    have hx := hs.wider (G := S.New w wC) (fun b hb => by rw [hb]; exact ⟨by omega, hlt⟩)
    have hl64 : (R.sixty ⟨E, q, fl, b⟩ ++ M.hiB 4 (C.sum (R.sixty ⟨E, q, fl, b⟩))).length = 64 := R.sector_len (f := ⟨E, q, fl, b⟩) hl
    have he := hx
    rw [hl64] at he
    show S.Sg wC _ 1 _ (R.sector ⟨E, q, fl, b⟩).length (bytesV (R.sector ⟨E, q, fl, b⟩))
    rw [R.sector_len hl]
    exact he)
  clear BA hbA' hbB BB hbB' BC hgC hrC hs hlt
  go_wp2_with (at_builtin; refine wpList_app rfl _ _ 44 9 rfl rfl rfl HA.out ?_; clear HA)
  go_ret2
  exact ⟨_, rfl, HS.out, hbC⟩

end Go.Proofs.Ytfpojbnidoeohaa
