/-
  The laws' own example of layer frame: a frame there and back, and a record of two.
-/
import Derived.Test.YtgfnjineojihjaaFrAbs
import Derived.Lib.SlBytesConst
namespace Go.Proofs.Ytgfnjineojihjaa
open Go.RowKit

def f1 : R.Fr := ⟨1, 2, 3, [97, 98]⟩

theorem f1_num : f1.Num := ⟨by decide, by decide⟩
theorem f1_pack : packE f1 = 0 ∧ packB f1 = R.sector f1 ∧ (R.sector f1).length = 64 := ⟨rfl, rfl, R.sector_len (by decide)⟩
theorem f1_parse : parseE (R.sector f1) = 0 ∧ parseF (R.sector f1) = f1 := by
  have := R.parse_sector f1_num (by decide)
  unfold parseE parseF
  rw [this]
  exact ⟨rfl, rfl⟩

theorem info5 : (Try.prog.info? 5).map (fun i => (i.zero, i.size, i.bytes)) = some (some (.int .u8 0), 1, 1) := by kernel_rfl

theorem below_made {w w' : World} (h : w.grownBy w' none) : Below w.heap.size w w' := (Below.refl _ _).grown h (Nat.le_refl _) (fun j hj => by cases hj)

theorem made_bytes (n : Nat) : (madeCells (Value.int .u8 0).cells (n * 1)).toList = bytesV (List.replicate n 0) := by
  rw [show (Value.int .u8 0).cells = #[.int .u8 0] from rfl, toList_madeCells_one]
  simp [bytesV]

/-- the four cells of a frame in a slice, as a walk writes their places -/
theorem Frs.at {w : World} {F : Nat → Prop} {v : Value} {fs : List R.Fr} (h : Frs w F v fs) (i : Nat) (hi : i < fs.length) : ∃ a cap vb, v = .slice (some a) fs.length cap ∧ fs.length ≤ cap ∧ F a.block ∧
    w.cell? (a.add (i * 4)) = some (.int .u32 (fs[i].epoch : Int)) ∧ w.cell? (a.add (i * 4 + 1)) = some (.int .u32 (fs[i].seq : Int)) ∧ w.cell? (a.add (i * 4 + 2)) = some (.int .u8 (fs[i].flag.toNat : Int)) ∧ w.cell? (a.add (i * 4 + 3)) = some vb ∧ SlB w F vb fs[i].body := by
  obtain ⟨A, cap, e, hc, hx⟩ := h
  obtain ⟨a, rfl, hF, hx⟩ := hx (fun e => by subst e; simp at hi)
  obtain ⟨vb, h0, h1, h2, h3, hb⟩ := hx i hi
  exact ⟨a, cap, vb, e, hc, hF, h0, h1, h2, h3, hb⟩

set_option maxRecDepth 100000 in
set_option maxHeartbeats 600000 in
theorem fawake_any (K : FrameOk) (w : World) : Calls Try.prog 9 #[] w fun r w' => r = .returned (.bool true) ∧ Below w.heap.size w w' := by
  have hb0 : Below w.heap.size w (w.alloc (.cells #[.int .u8 97, .int .u8 98] 5 (2, 3))) := (Below.refl _ _).alloc (Nat.le_refl _) _
  have hV : FrV (w.alloc (.cells #[.int .u8 97, .int .u8 98] 5 (2, 3))) (fun b => b = w.heap.size) (.agg #[.int .u32 1, .int .u32 2, .int .u8 3, .slice (some ⟨w.heap.size, 0, none⟩) 2 2]) f1 :=
    ⟨_, rfl, rfl, _, 2, rfl, Nat.le_refl _, fun _ => ⟨_, rfl, rfl, fun j u hj => by
      rw [Addr.add_mid, cell_of_row _ _ _ #[.int .u8 97, .int .u8 98] 5 (2, 3) (heap_alloc_new w _), Nat.zero_add]
      simpa [f1, bytesV] using hj⟩⟩
  have HP := Lib.hid (K.pack hV (fun b hb => by simp [hb]) f1_num (by decide))
  rw [f1_pack.1, f1_pack.2.1] at HP
  obtain ⟨Z, hZ⟩ : ∃ Z, Z = R.sector f1 := ⟨_, rfl⟩
  have lZ : Z.length = 64 := by rw [hZ]; exact f1_pack.2.2
  have HZ := Lib.hid hZ
  rw [← hZ] at HP
  clear hV hZ
  have kc := Lib.run_convert_bytes_const (P := Try.prog) w 23 5 #[.int .u8 97, .int .u8 98] 2 2 Try.underlying23 Try.underlying5
  go_enter Try.func9, Try.ntmps9
  go_wp2_with fail
  refine HP.out.mono ?_
  rintro r w1 ⟨vb1, rfl, hs1, hb1⟩
  have hb1' := below_two hb0 hb1
  obtain ⟨A1, cap1, rfl, hc1⟩ : ∃ A cap, vb1 = .slice A 64 cap ∧ 64 ≤ cap := by obtain ⟨_, A, cap, e, hc, _⟩ := hs1; rw [lZ] at e hc; exact ⟨A, cap, e, hc⟩
  have HQ := Lib.hid (K.parse hs1 (fun b hb => hb.2) (by omega))
  rw [HZ.out, f1_parse.1, f1_parse.2] at HQ
  clear HP hs1 hb1 hb0
  go_wp2_with fail
  refine HQ.out.mono ?_
  rintro r w2 ⟨vf, rfl, ⟨vb2, rfl, hs2⟩, hb2⟩
  have hb2' := below_two hb1' hb2
  obtain ⟨A2, cap2, rfl, hc2⟩ : ∃ A cap, vb2 = .slice A 2 cap ∧ 2 ≤ cap := by obtain ⟨_, A, cap, e, hc, _⟩ := hs2; exact ⟨A, cap, e, hc⟩
  obtain ⟨i5, hi5, hz0, hz1, hz2⟩ := info_parts info5
  have HB5 := Lib.hid (show i5.bytes * 51 ≤ 281474976710656 by rw [hz2]; decide)
  clear HQ hb2 hb1'
  go_wp2_with (at_make; refine wpList_make_full _ rfl _ _ 23 rfl w.heap.size 5 i5 (.int .u8 0) 1 Try.underlying23 hi5 hz0 hz1 .i64 .i64 51 51 51 rfl rfl rfl rfl HB5.out (by decide) (Nat.le_trans hb2'.size (by simp)) ?_)
  intro w4 hown hgrow
  have hs4 : SlB w4 (fun b => w.heap.size ≤ b ∧ b < w4.heap.size) (.slice (some ⟨w2.heap.size + 1, 0, none⟩) 51 51) (List.replicate 51 0) := by
    have := S.Sg.of_own hown
    have e : (madeCells #[Value.int .u8 0] 51).toList = bytesV (List.replicate 51 0) := by rw [toList_madeCells_one]; simp [bytesV]
    rw [e] at this
    exact this
  have hb4 := below_made hgrow
  have G4 := (Bk.new w2 [.int .u32 1, .int .u32 2, .int .u8 3, .slice A2 2 cap2] 25 rfl).step hb4
  have hs2' := (hs2.below ((Below.refl _ _).alloc (Nat.le_refl _) (.cells #[.int .u32 1, .int .u32 2, .int .u8 3, .slice A2 2 cap2] 25)) (fun b hb => hb.2)).below hb4 (fun b hb => Nat.lt_of_lt_of_le hb.2 (by simp))
  have hb4' := hb2'.trans ((below_two ((Below.refl _ _).alloc (Nat.le_refl _) (.cells #[.int .u32 1, .int .u32 2, .int .u8 3, .slice A2 2 cap2] 25)) hb4).mono hb2'.size)
  have HC := Lib.hid (K.cut 1 5 hs4 (fun b hb => hb.2) (by decide) (by decide) (by decide))
  clear hown hgrow hs4 hb2' hs2
  go_wp2_with fail
  refine HC.out.mono ?_
  rintro r w5 ⟨v5, rfl, hs5, hb5⟩
  have hlen : (R.cut 1 5 (List.replicate 51 0)).length = 2 := by decide
  obtain ⟨a, cap5, vb0, e5, hc5, _, x0, x1, x2, x3, hB0⟩ := hs5.at 0 (by omega)
  obtain ⟨a', cap5', vb0', e5', hc5', _, y0, y1, y2, y3, hB1⟩ := hs5.at 1 (by omega)
  rw [e5] at e5'
  cases e5'
  subst e5
  rw [R.cut_at] at x0 x1 x2 y0 y1 y2
  have G5 := G4.step hb5
  have g1 := G5.cell 1 _ rfl
  have g3 := G5.cell 3 _ rfl
  have hcv := conv_sg (l := [97, 98]) (hs2'.below hb5 (fun b hb => by have := hb4.size; simp at this; have := hb.2; omega))
  have hb9 := below_two hb4' hb5
  have x2' : w5.cell? ⟨a.block, a.off + 2, none⟩ = some (.int .u8 1) := x2
  have y2' : w5.cell? ⟨a.block, a.off + 6, none⟩ = some (.int .u8 2) := y2
  have y1' : w5.cell? ⟨a.block, a.off + 5, none⟩ = some (.int .u32 6) := y1
  rw [hlen]
  rw [hlen] at hc5
  clear hB0 hB1 hc5'
  clear HC hs5 G4 G5 hb4 hb4' hb5 x0 x1 x2 x3 y0 y1 y2 y3 hs2' hlen
  go_wp2
  go_ret
  exact ⟨rfl, hb9⟩

end Go.Proofs.Ytgfnjineojihjaa
